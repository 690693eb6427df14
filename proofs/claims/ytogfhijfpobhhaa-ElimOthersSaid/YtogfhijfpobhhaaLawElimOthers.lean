/- ElimOthers: the walk. -/
import Derived.Test.YtogfhijfpobhhaaKeep15
namespace Go.Proofs.Ytogfhijfpobhhaa
open Go.RowKit
theorem keep_alike (m1 m2 cur : Int) (X Y : List Itm) : alikeB m1 m2 cur (keepL cur X) (keepL cur Y) = alikeB m1 m2 cur X Y := by unfold alikeB; rw [keep_sold, keep_sold]
theorem keep_look (m1 m2 cur : Int) (X Y : List Itm) : lookV m1 m2 cur (keepL cur X) (keepL cur Y) = lookV m1 m2 cur X Y := by unfold lookV; rw [keep_sold, keep_sold, keep_alike]
theorem keep_even (cur : Int) (pa pb pv pw : Option Addr) (na ca nb cb nv cv nw cw : Nat) (X Y : List Itm) : evenB cur [bkA pv nv cv (keepL cur X), bkB pw nw cw (keepL cur Y)] = evenB cur [bkA pa na ca X, bkB pb nb cb Y] := by
  have e : ∀ x y : Bk, evenB cur [x, y] = pairOk cur y x := fun x y => by simp [evenB, List.range_succ]
  rw [e, e]
  show (decide ((1 : Int) = 0) || (alikeB 1 0 cur (keepL cur Y) (keepL cur X) && alikeB 0 1 cur (keepL cur X) (keepL cur Y))) = (decide ((1 : Int) = 0) || (alikeB 1 0 cur Y X && alikeB 0 1 cur X Y))
  rw [keep_alike, keep_alike]
theorem pair_self (a b c d : Int) (e : Bool) (w : World) : (Op.equalIn 10000 30 (.agg #[.int .i64 a, .int .i64 b, .int .i64 c, .int .i64 d, .bool e]) (.agg #[.int .i64 a, .int .i64 b, .int .i64 c, .int .i64 d, .bool e])).run Try.prog w = .ok true w := by
  go_simp
set_option linter.unusedSimpArgs false in
set_option maxHeartbeats 8000000 in
set_option maxRecDepth 100000 in
theorem eothers_walk (va : Value) (la : List Itm) (vb : Value) (lb : List Itm) (cur : Int) (w : World) (ha : TRow encI w va la) (hb : TRow encI w vb lb) (_ : -9223372036854775808 ≤ cur ∧ cur ≤ 9223372036854775807) :
    Calls Try.prog 6 #[va, vb, .int .i64 cur] w fun e w' => e = .returned (.bool true) ∧ Below w.heap.size w w' := by
  obtain ⟨p1, c1, rfl⟩ := ha.shape
  obtain ⟨p2, c2, rfl⟩ := hb.shape
  have HK := Lib.hid (fun W => holds15_any W)
  have HB0 := Lib.hid (oneB w (.cells #[.int .i64 cur] 3))
  have HC0 := Lib.hid (Blk.new w #[.int .i64 cur] 3)
  by_cases hl1 : 30 < la.length
  · have hlI : (30 : Int) < (la.length : Int) := by omega
    clear ha hb hl1
    generalize la.length = n1 at *
    generalize lb.length = n2 at *
    go_enter Try.func6, Try.ntmps6
    go_wp2_with fail
    generalize w.alloc (.cells #[.int .i64 cur] 3) = W0 at *
    refine (HK.out W0).mono ?_
    rintro y w1 ⟨rfl, hb1⟩
    have HB1 := Lib.hid (HB0.out.trans (hb1.mono HB0.out.size))
    clear hb1
    go_wp2_with fail
    go_ret
    exact ⟨rfl, HB1.out⟩
  have hlI1 : (la.length : Int) ≤ (30 : Int) := by omega
  by_cases hl2 : 30 < lb.length
  · have hlI : (30 : Int) < (lb.length : Int) := by omega
    clear ha hb hl1 hl2
    generalize la.length = n1 at *
    generalize lb.length = n2 at *
    go_enter Try.func6, Try.ntmps6
    go_wp2_with fail
    generalize w.alloc (.cells #[.int .i64 cur] 3) = W0 at *
    refine (HK.out W0).mono ?_
    rintro y w1 ⟨rfl, hb1⟩
    have HB1 := Lib.hid (HB0.out.trans (hb1.mono HB0.out.size))
    clear hb1
    go_wp2_with fail
    go_ret
    exact ⟨rfl, HB1.out⟩
  have hlI2 : (lb.length : Int) ≤ (30 : Int) := by omega
  have HTW := Lib.hid (fun W (h : Below w.heap.size w W) => two_any W _ _ la lb (ha.kept h) (hb.kept h) (by omega) (by omega))
  have HGA : Hid (GoodB 0 (foldX 0 [] la)) := foldX_good (goodB_nil 0)
  have HGB : Hid (GoodB 1 (foldX 1 [] lb)) := foldX_good (goodB_nil 1)
  have HNA : Hid ((foldX 0 [] la).length ≤ 30) := by show _ ≤ _; have := foldX_len (l := la) (goodB_nil 0); rw [List.length_nil] at this; omega
  have HNB : Hid ((foldX 1 [] lb).length ≤ 30) := by show _ ≤ _; have := foldX_len (l := lb) (goodB_nil 1); rw [List.length_nil] at this; omega
  clear ha hb hl1 hl2
  generalize la.length = n1 at *
  generalize lb.length = n2 at *
  generalize foldX 0 [] la = X at *
  generalize foldX 1 [] lb = Y at *
  have HKX : Hid ((keepL cur X).length ≤ 30) := by show _ ≤ _; have := List.length_filter_le (keepB cur) X; have := HNA.out; unfold keepL; omega
  have HKY : Hid ((keepL cur Y).length ≤ 30) := by show _ ≤ _; have := List.length_filter_le (keepB cur) Y; have := HNB.out; unfold keepL; omega
  have HTW2 := Lib.hid (fun W va vb (h1 : TRow encI W va (keepL cur X)) (h2 : TRow encI W vb (keepL cur Y)) => two_any W va vb (keepL cur X) (keepL cur Y) h1 h2 HKX.out HKY.out)
  rw [fold_keep HGA.out, fold_keep HGB.out] at HTW2
  have hmf : ∀ (fn : Fn) (first cap : Array Value) (w : World), (Instr.makeFunc fn first cap).run Try.prog w = .ok (.func fn first cap) w := fun _ _ _ _ => rfl
  unfold bookV at HTW HTW2
  go_enter Try.func6, Try.ntmps6
  go_wp2_with fail
  generalize w.alloc (.cells #[.int .i64 cur] 3) = W0 at *
  refine (HK.out W0).mono ?_
  rintro y w1 ⟨rfl, hb1⟩
  have HB1 := Lib.hid (HB0.out.trans (hb1.mono HB0.out.size))
  have HC1 := Lib.hid (HC0.out.below hb1 HC0.out.lt)
  clear hb1 HK HB0 HC0
  go_wp2_with fail
  refine (HTW.out w1 HB1.out).mono ?_
  rintro y w2 ⟨pa, na, ca, pb, nb, cb, rfl, hra, hla, hrb, hlb, hb2, _, _⟩
  have HB2 := Lib.hid (HB1.out.trans (hb2.mono HB1.out.size))
  have HC2 := Lib.hid (HC1.out.below hb2 HC1.out.lt)
  have HIN : Hid (∀ b ∈ [bkA pa na ca X, bkB pb nb cb Y], b.In w2) := two_in hra hrb hla hlb HGA.out HGB.out (by have := HNA.out; omega) (by have := HNB.out; omega)
  clear hra hla hrb hlb hb2 HTW HB1 HC1
  go_upto_region 7 with fail
  generalize hW3 : (w2.alloc (.cells #[.int .i64 0, .slice pa na ca, .slice none 0 0] 26)).alloc (.cells #[.int .i64 1, .slice pb nb cb, .slice none 0 0] 26) = WB
  have HB3 : Hid (Below w2.heap.size w2 WB) := by show Below _ _ _; rw [← hW3]; exact (oneB w2 _).alloc (by simp) _
  have HKA : Hid (Blk WB w2.heap.size #[.int .i64 0, .slice pa na ca, .slice none 0 0] 26) := by show Blk _ _ _ _; rw [← hW3]; exact (Blk.new w2 _ _).alloc _
  have HKB : Hid (Blk WB (w2.heap.size + 1) #[.int .i64 1, .slice pb nb cb, .slice none 0 0] 26) := by show Blk _ _ _ _; rw [← hW3]; exact Blk.new' _ _ _ (by simp)
  clear hW3
  have HBW := Lib.hid (HB2.out.trans (HB3.out.mono HB2.out.size))
  have HCB := Lib.hid (HC2.out.below HB3.out HC2.out.lt)
  have HINB : Hid (∀ b ∈ [bkA pa na ca X, bkB pb nb cb Y], b.In WB) := fun b hb => (HIN.out b hb).kept HB3.out
  clear HB2 HB3 HIN HC2
  generalize w2.heap.size = ga at *
  have HKEEPX := Lib.hid (fun W (h : Below WB.heap.size WB W) => keep_any W _ w.heap.size cur X ((HINB.out (bkA pa na ca X) (by simp)).row.kept h) (HINB.out (bkA pa na ca X) (by simp)).small ((HCB.out.below h HCB.out.lt).cell 0))
  have HKEEPY := Lib.hid (fun W (h : Below WB.heap.size WB W) => keep_any W _ w.heap.size cur Y ((HINB.out (bkB pb nb cb Y) (by simp)).row.kept h) (HINB.out (bkB pb nb cb Y) (by simp)).small ((HCB.out.below h HCB.out.lt).cell 0))
  have HS : Hid (∀ w', Below WB.heap.size WB w' → w'.cell? ⟨ga, 1, none⟩ = some (.slice pa na ca) ∧ w'.cell? ⟨ga + 1, 1, none⟩ = some (.slice pb nb cb)) := fun w' h => ⟨(HKA.out.below h HKA.out.lt).cell 1, (HKB.out.below h HKB.out.lt).cell 1⟩
  go_cut [11, 12, 13] from 36 (fun px py ok wx => ∃ (g13 g14 : Nat) (pv : Option Addr) (nv cv : Nat) (pw : Option Addr) (nw cw : Nat), px = .pointer (some ⟨g13, 0, none⟩) ∧ py = .pointer (some ⟨g14, 0, none⟩) ∧ ok = .bool true ∧ Blk wx g13 #[.int .i64 0, .slice pv nv cv, .slice none 0 0] 26 ∧ Blk wx g14 #[.int .i64 1, .slice pw nw cw, .slice none 0 0] 26 ∧ TRow encI wx (.slice pv nv cv) (keepL cur X) ∧ TRow encI wx (.slice pw nw cw) (keepL cur Y) ∧ (keepL cur X).length = nv ∧ (keepL cur Y).length = nw ∧ Below WB.heap.size WB wx)
  case first =>
    have hS1 : WB.drew.cell? ⟨ga, 1, none⟩ = some (.slice pa na ca) ∧ WB.drew.cell? ⟨ga + 1, 1, none⟩ = some (.slice pb nb cb) := ⟨HKA.out.cell 1, HKB.out.cell 1⟩
    have HB0 := Lib.hid ((Below.refl WB.heap.size WB).drew)
    refine wp_region_held_drew (S := fun w' => w'.cell? ⟨ga, 1, none⟩ = some (.slice pa na ca) ∧ w'.cell? ⟨ga + 1, 1, none⟩ = some (.slice pb nb cb)) (by kernel_rfl) hS1 (fun hS0 => ?_)
    refine wpAnyH_take (i := 0) (v := ?_) rfl (by kernel_rfl) (by kernel_rfl) (by kernel_rfl) (fun _ _ _ h => h) (Or.inl ⟨by kernel_rfl, ?_⟩) (by first | assumption | trivial) ?_
    rotate_left
    · intro w hSw
      try dsimp only at hSw
      first | (go_simp; done) | (go_simp; with_reducible rfl)
    try simp only [Act.put, List.getElem_toArray, List.getElem_cons_succ, List.getElem_cons_zero, List.setIfInBounds_toArray, List.set_cons_zero, List.set_cons_succ]
    refine wpAnyH_take (i := 1) (v := ?_) rfl (by kernel_rfl) (by kernel_rfl) (by kernel_rfl) (fun _ _ _ h => h) (Or.inl ⟨by kernel_rfl, ?_⟩) (by first | assumption | trivial) ?_
    rotate_left
    · intro w hSw
      try dsimp only at hSw
      first | (go_simp; done) | (go_simp; with_reducible rfl)
    try simp only [Act.put, List.getElem_toArray, List.getElem_cons_succ, List.getElem_cons_zero, List.setIfInBounds_toArray, List.set_cons_zero, List.set_cons_succ]
    refine wpAnyH_take (i := 2) (v := ?_) rfl (by kernel_rfl) (by kernel_rfl) (by kernel_rfl) (fun _ _ _ h => h) (Or.inl ⟨by kernel_rfl, ?_⟩) (by first | assumption | trivial) ?_
    rotate_left
    · intro w hSw
      try dsimp only at hSw
      first | (go_simp; done) | (go_simp; with_reducible rfl)
    try simp only [Act.put, List.getElem_toArray, List.getElem_cons_succ, List.getElem_cons_zero, List.setIfInBounds_toArray, List.set_cons_zero, List.set_cons_succ]
    refine wpAnyH_take (i := 4) (v := ?_) rfl (by kernel_rfl) (by kernel_rfl) (by kernel_rfl) (fun _ _ _ h => h) (Or.inl ⟨by kernel_rfl, ?_⟩) (by first | assumption | trivial) ?_
    rotate_left
    · intro w hSw
      try dsimp only at hSw
      first | (go_simp; done) | (go_simp; with_reducible rfl)
    try simp only [Act.put, List.getElem_toArray, List.getElem_cons_succ, List.getElem_cons_zero, List.setIfInBounds_toArray, List.set_cons_zero, List.set_cons_succ]
    refine wpAnyH_take (i := 5) (v := ?_) rfl (by kernel_rfl) (by kernel_rfl) (by kernel_rfl) (fun _ _ _ h => h) (Or.inl ⟨by kernel_rfl, ?_⟩) (by first | assumption | trivial) ?_
    rotate_left
    · intro w hSw
      try dsimp only at hSw
      first | (go_simp; done) | (go_simp; with_reducible rfl)
    try simp only [Act.put, List.getElem_toArray, List.getElem_cons_succ, List.getElem_cons_zero, List.setIfInBounds_toArray, List.set_cons_zero, List.set_cons_succ]
    refine wpAnyH_take (i := 6) (v := ?_) rfl (by kernel_rfl) (by kernel_rfl) (by kernel_rfl) (fun _ _ _ h => h) (Or.inl ⟨by kernel_rfl, ?_⟩) (by first | assumption | trivial) ?_
    rotate_left
    · intro w hSw
      try dsimp only at hSw
      first | (go_simp; done) | (go_simp; with_reducible rfl)
    try simp only [Act.put, List.getElem_toArray, List.getElem_cons_succ, List.getElem_cons_zero, List.setIfInBounds_toArray, List.set_cons_zero, List.set_cons_succ]
    generalize WB.drew = q0 at *
    refine wpAnyH_ready (rs := [3, 13, 14]) (by kernel_rfl) (by simp) ?_
    refine AllReadyH.cons rfl (fun K hK => ?_) (AllReadyH.cons rfl (fun K hK => ?_) (AllReadyH.cons rfl (fun K hK => ?_) AllReadyH.nil))
    · skip
      go_simp
      go_at_call 20
      refine (HKEEPX.out q0 HB0.out).mono ?_
      rintro y q1 ⟨vv3, rfl, ho3, hb⟩
      have HB1 := Lib.hid (HB0.out.trans (hb.mono HB0.out.size))
      obtain ⟨pk3, ck3, hv3⟩ := ho3.form
      generalize hk3 : (keepL cur X).length = nk3 at hv3
      subst hv3
      have HR3_1 := Lib.hid ho3.row
      clear hb ho3 hk3
      try go_wp2_with fail
      refine hK.out _ _ (HS.out q1 HB1.out) (fun hS => ?_)
      clear hK K
      try simp only [Act.put, List.getElem_toArray, List.getElem_cons_succ, List.getElem_cons_zero, List.setIfInBounds_toArray, List.set_cons_zero, List.set_cons_succ]
      refine wpAnyH_ready (rs := [7, 13, 14]) (by kernel_rfl) (by simp) ?_
      refine AllReadyH.cons rfl (fun K hK => ?_) (AllReadyH.cons rfl (fun K hK => ?_) (AllReadyH.cons rfl (fun K hK => ?_) AllReadyH.nil))
      · skip
        go_simp
        go_at_call 20
        refine (HKEEPY.out q1 HB1.out).mono ?_
        rintro y q2 ⟨vv7, rfl, ho7, hb⟩
        have HB2 := Lib.hid (HB1.out.trans (hb.mono HB1.out.size))
        obtain ⟨pk7, ck7, hv7⟩ := ho7.form
        generalize hk7 : (keepL cur Y).length = nk7 at hv7
        subst hv7
        have HR7_2 := Lib.hid ho7.row
        have HR3_2 := Lib.hid (HR3_1.out.kept hb)
        clear hb ho7 hk7
        try go_wp2_with fail
        refine hK.out _ _ (HS.out q2 HB2.out) (fun hS => ?_)
        clear hK K
        try simp only [Act.put, List.getElem_toArray, List.getElem_cons_succ, List.getElem_cons_zero, List.setIfInBounds_toArray, List.set_cons_zero, List.set_cons_succ]
        refine wpAnyH_ready (rs := [8, 13, 14]) (by kernel_rfl) (by simp) ?_
        refine AllReadyH.cons rfl (fun K hK => ?_) (AllReadyH.cons rfl (fun K hK => ?_) (AllReadyH.cons rfl (fun K hK => ?_) AllReadyH.nil))
        · skip
          go_simp
          go_at_call 9
          refine (HTW2.out q2 _ _ HR3_2.out HR7_2.out).mono ?_
          rintro y q3 ⟨pv, nv, cv, pw, nw, cw, rfl, hrv, hlv, hrw, hlw, hb, hov, how⟩
          have HB3 := Lib.hid (HB2.out.trans (hb.mono HB2.out.size))
          have HR3_3 := Lib.hid (HR3_2.out.kept hb)
          have HR7_3 := Lib.hid (HR7_2.out.kept hb)
          have HRV_3 := Lib.hid hrv
          have HRW_3 := Lib.hid hrw
          have HLV := Lib.hid hlv
          have HLW := Lib.hid hlw
          clear hrv hlv hrw hlw hb hov how
          try go_wp2_with fail
          refine hK.out _ _ (HS.out q3 HB3.out) (fun hS => ?_)
          clear hK K
          try simp only [Act.put, List.getElem_toArray, List.getElem_cons_succ, List.getElem_cons_zero, List.setIfInBounds_toArray, List.set_cons_zero, List.set_cons_succ]
          refine wpAnyH_take (i := 9) (v := ?_) rfl (by kernel_rfl) (by kernel_rfl) (by kernel_rfl) (fun _ _ _ h => h) (Or.inl ⟨by kernel_rfl, ?_⟩) (by first | assumption | trivial) ?_
          rotate_left
          · intro w hSw
            try dsimp only at hSw
            first | (go_simp; done) | (go_simp; with_reducible rfl)
          try simp only [Act.put, List.getElem_toArray, List.getElem_cons_succ, List.getElem_cons_zero, List.setIfInBounds_toArray, List.set_cons_zero, List.set_cons_succ]
          refine wpAnyH_take (i := 10) (v := ?_) rfl (by kernel_rfl) (by kernel_rfl) (by kernel_rfl) (fun _ _ _ h => h) (Or.inl ⟨by kernel_rfl, ?_⟩) (by first | assumption | trivial) ?_
          rotate_left
          · intro w hSw
            try dsimp only at hSw
            first | (go_simp; done) | (go_simp; with_reducible rfl)
          try simp only [Act.put, List.getElem_toArray, List.getElem_cons_succ, List.getElem_cons_zero, List.setIfInBounds_toArray, List.set_cons_zero, List.set_cons_succ]
          refine wpAnyH_take (i := 11) (v := ?_) rfl (by kernel_rfl) (by kernel_rfl) (by kernel_rfl) (fun _ _ _ h => h) (Or.inl ⟨by kernel_rfl, ?_⟩) (by first | assumption | trivial) ?_
          rotate_left
          · intro w hSw
            try dsimp only at hSw
            first | (go_simp; done) | (go_simp; with_reducible rfl)
          try simp only [Act.put, List.getElem_toArray, List.getElem_cons_succ, List.getElem_cons_zero, List.setIfInBounds_toArray, List.set_cons_zero, List.set_cons_succ]
          refine wpAnyH_take (i := 12) (v := ?_) rfl (by kernel_rfl) (by kernel_rfl) (by kernel_rfl) (fun _ _ _ h => h) (Or.inl ⟨by kernel_rfl, ?_⟩) (by first | assumption | trivial) ?_
          rotate_left
          · intro w hSw
            try dsimp only at hSw
            first | (go_simp; done) | (go_simp; with_reducible rfl)
          try simp only [Act.put, List.getElem_toArray, List.getElem_cons_succ, List.getElem_cons_zero, List.setIfInBounds_toArray, List.set_cons_zero, List.set_cons_succ]
          refine wpAnyH_ready (rs := [13, 14]) (by kernel_rfl) (by simp) ?_
          refine AllReadyH.cons rfl (fun K hK => ?_) (AllReadyH.cons rfl (fun K hK => ?_) AllReadyH.nil)
          · skip
            go_simp
            have hb := oneB q3 (.cells #[.int .i64 0, .slice none 0 0, .slice none 0 0] 26)
            have HB4 := Lib.hid (HB3.out.trans (hb.mono HB3.out.size))
            have HA13_4 := Lib.hid (Blk.new q3 #[.int .i64 0, .slice none 0 0, .slice none 0 0] 26)
            have HG13 : Hid (WB.heap.size ≤ q3.heap.size) := HB3.out.size
            have HR3_4 := Lib.hid (HR3_3.out.kept hb)
            have HR7_4 := Lib.hid (HR7_3.out.kept hb)
            have HRV_4 := Lib.hid (HRV_3.out.kept hb)
            have HRW_4 := Lib.hid (HRW_3.out.kept hb)
            have HNV13 := Lib.hid HRV_3.out.ne_new
            have HNW13 := Lib.hid HRW_3.out.ne_new
            clear hb
            generalize q3.alloc (.cells #[.int .i64 0, .slice none 0 0, .slice none 0 0] 26) = q4 at *
            generalize q3.heap.size = g13 at *
            refine hK.out _ _ (HS.out q4 HB4.out) (fun hS => ?_)
            clear hK K
            try simp only [Act.put, List.getElem_toArray, List.getElem_cons_succ, List.getElem_cons_zero, List.setIfInBounds_toArray, List.set_cons_zero, List.set_cons_succ]
            refine wpAnyH_ready (rs := [14]) (by kernel_rfl) (by simp) ?_
            refine AllReadyH.cons rfl (fun K hK => ?_) AllReadyH.nil
            go_simp
            have hb := oneB q4 (.cells #[.int .i64 0, .slice none 0 0, .slice none 0 0] 26)
            have HB5 := Lib.hid (HB4.out.trans (hb.mono HB4.out.size))
            have HA14_5 := Lib.hid (Blk.new q4 #[.int .i64 0, .slice none 0 0, .slice none 0 0] 26)
            have HG14 : Hid (WB.heap.size ≤ q4.heap.size) := HB4.out.size
            have HR3_5 := Lib.hid (HR3_4.out.kept hb)
            have HR7_5 := Lib.hid (HR7_4.out.kept hb)
            have HRV_5 := Lib.hid (HRV_4.out.kept hb)
            have HRW_5 := Lib.hid (HRW_4.out.kept hb)
            have HA13_5 := Lib.hid (HA13_4.out.below hb HA13_4.out.lt)
            have HNE : Hid (g13 < q4.heap.size) := HA13_4.out.lt
            have HNV14 := Lib.hid HRV_4.out.ne_new
            have HNW14 := Lib.hid HRW_4.out.ne_new
            clear hb
            generalize q4.alloc (.cells #[.int .i64 0, .slice none 0 0, .slice none 0 0] 26) = q5 at *
            generalize q4.heap.size = g14 at *
            refine hK.out _ _ (HS.out q5 HB5.out) (fun hS => ?_)
            clear hK K
            try simp only [Act.put, List.getElem_toArray, List.getElem_cons_succ, List.getElem_cons_zero, List.setIfInBounds_toArray, List.set_cons_zero, List.set_cons_succ]
            refine wpAnyH_ready (rs := [15]) (by kernel_rfl) (by simp) ?_
            refine AllReadyH.cons rfl (fun K hK => ?_) AllReadyH.nil
            have z0 : q5.cell? ⟨g13, 0, none⟩ = some (.int .i64 0) := HA13_5.out.cell 0
            have z1 : q5.cell? ⟨g13, 1, none⟩ = some (.slice none 0 0) := HA13_5.out.cell 1
            have z2 : q5.cell? ⟨g13, 2, none⟩ = some (.slice none 0 0) := HA13_5.out.cell 2
            have f0 := HA13_5.out.free 0
            have f1 := HA13_5.out.free 1
            have f2 := HA13_5.out.free 2
            have HA13_6 := Lib.hid (st3_blk HA13_5.out rfl (.int .i64 0) (.slice pv nv cv) (.slice none 0 0))
            have HA14_6 := Lib.hid (blk_st3 (g := g13) HA14_5.out (Nat.ne_of_gt HNE.out) (.int .i64 0) (.slice pv nv cv) (.slice none 0 0))
            have HRV_6 := Lib.hid (row_st3N HRV_5.out HNV13.out (.int .i64 0) (.slice pv nv cv) (.slice none 0 0))
            have HRW_6 := Lib.hid (row_st3N HRW_5.out HNW13.out (.int .i64 0) (.slice pv nv cv) (.slice none 0 0))
            have HB6 := Lib.hid (st3_below (g := g13) HB5.out HG13.out (.int .i64 0) (.slice pv nv cv) (.slice none 0 0))
            unfold st3 at HA13_6 HA14_6 HRV_6 HRW_6 HB6
            go_simp
            generalize (((q5.setCell ⟨g13, 0, none⟩ (.int .i64 0)).setCell ⟨g13, 1, none⟩ (.slice pv nv cv)).setCell ⟨g13, 2, none⟩ (.slice none 0 0)) = q6 at *
            clear z0 z1 z2 f0 f1 f2
            refine hK.out _ _ (HS.out q6 HB6.out) (fun hS => ?_)
            clear hK K
            try simp only [Act.put, List.getElem_toArray, List.getElem_cons_succ, List.getElem_cons_zero, List.setIfInBounds_toArray, List.set_cons_zero, List.set_cons_succ]
            refine wpAnyH_ready (rs := [16]) (by kernel_rfl) (by simp) ?_
            refine AllReadyH.cons rfl (fun K hK => ?_) AllReadyH.nil
            have z0 : q6.cell? ⟨g14, 0, none⟩ = some (.int .i64 0) := HA14_6.out.cell 0
            have z1 : q6.cell? ⟨g14, 1, none⟩ = some (.slice none 0 0) := HA14_6.out.cell 1
            have z2 : q6.cell? ⟨g14, 2, none⟩ = some (.slice none 0 0) := HA14_6.out.cell 2
            have f0 := HA14_6.out.free 0
            have f1 := HA14_6.out.free 1
            have f2 := HA14_6.out.free 2
            have HA14_7 := Lib.hid (st3_blk HA14_6.out rfl (.int .i64 1) (.slice pw nw cw) (.slice none 0 0))
            have HA13_7 := Lib.hid (blk_st3 (g := g14) HA13_6.out (Nat.ne_of_lt HNE.out) (.int .i64 1) (.slice pw nw cw) (.slice none 0 0))
            have HRV_7 := Lib.hid (row_st3N HRV_6.out HNV14.out (.int .i64 1) (.slice pw nw cw) (.slice none 0 0))
            have HRW_7 := Lib.hid (row_st3N HRW_6.out HNW14.out (.int .i64 1) (.slice pw nw cw) (.slice none 0 0))
            have HB7 := Lib.hid (st3_below (g := g14) HB6.out HG14.out (.int .i64 1) (.slice pw nw cw) (.slice none 0 0))
            unfold st3 at HA13_7 HA14_7 HRV_7 HRW_7 HB7
            go_simp
            generalize (((q6.setCell ⟨g14, 0, none⟩ (.int .i64 1)).setCell ⟨g14, 1, none⟩ (.slice pw nw cw)).setCell ⟨g14, 2, none⟩ (.slice none 0 0)) = q7 at *
            clear z0 z1 z2 f0 f1 f2
            refine hK.out _ _ (HS.out q7 HB7.out) (fun hS => ?_)
            clear hK K
            try simp only [Act.put, List.getElem_toArray, List.getElem_cons_succ, List.getElem_cons_zero, List.setIfInBounds_toArray, List.set_cons_zero, List.set_cons_succ]
            refine wpAnyH_take (i := 17) (v := ?_) rfl (by kernel_rfl) (by kernel_rfl) (by kernel_rfl) (fun _ _ _ h => h) (Or.inl ⟨by kernel_rfl, ?_⟩) (by first | assumption | trivial) ?_
            rotate_left
            · intro w hSw
              try dsimp only at hSw
              first | (go_simp; done) | (go_simp; with_reducible rfl)
            try simp only [Act.put, List.getElem_toArray, List.getElem_cons_succ, List.getElem_cons_zero, List.setIfInBounds_toArray, List.set_cons_zero, List.set_cons_succ]
            refine wpAnyH_done (by kernel_rfl) ?_ _
            go_wp2_with fail
            go_meet
            case rel => exact ⟨g13, g14, pv, nv, cv, pw, nw, cw, rfl, rfl, rfl, HA13_7.out, HA14_7.out, HRV_7.out, HRW_7.out, HLV.out, HLW.out, HB7.out⟩
          · skip
            go_simp
            have hb := oneB q3 (.cells #[.int .i64 0, .slice none 0 0, .slice none 0 0] 26)
            have HB4 := Lib.hid (HB3.out.trans (hb.mono HB3.out.size))
            have HA14_4 := Lib.hid (Blk.new q3 #[.int .i64 0, .slice none 0 0, .slice none 0 0] 26)
            have HG14 : Hid (WB.heap.size ≤ q3.heap.size) := HB3.out.size
            have HR3_4 := Lib.hid (HR3_3.out.kept hb)
            have HR7_4 := Lib.hid (HR7_3.out.kept hb)
            have HRV_4 := Lib.hid (HRV_3.out.kept hb)
            have HRW_4 := Lib.hid (HRW_3.out.kept hb)
            have HNV14 := Lib.hid HRV_3.out.ne_new
            have HNW14 := Lib.hid HRW_3.out.ne_new
            clear hb
            generalize q3.alloc (.cells #[.int .i64 0, .slice none 0 0, .slice none 0 0] 26) = q4 at *
            generalize q3.heap.size = g14 at *
            refine hK.out _ _ (HS.out q4 HB4.out) (fun hS => ?_)
            clear hK K
            try simp only [Act.put, List.getElem_toArray, List.getElem_cons_succ, List.getElem_cons_zero, List.setIfInBounds_toArray, List.set_cons_zero, List.set_cons_succ]
            refine wpAnyH_ready (rs := [13]) (by kernel_rfl) (by simp) ?_
            refine AllReadyH.cons rfl (fun K hK => ?_) AllReadyH.nil
            go_simp
            have hb := oneB q4 (.cells #[.int .i64 0, .slice none 0 0, .slice none 0 0] 26)
            have HB5 := Lib.hid (HB4.out.trans (hb.mono HB4.out.size))
            have HA13_5 := Lib.hid (Blk.new q4 #[.int .i64 0, .slice none 0 0, .slice none 0 0] 26)
            have HG13 : Hid (WB.heap.size ≤ q4.heap.size) := HB4.out.size
            have HR3_5 := Lib.hid (HR3_4.out.kept hb)
            have HR7_5 := Lib.hid (HR7_4.out.kept hb)
            have HRV_5 := Lib.hid (HRV_4.out.kept hb)
            have HRW_5 := Lib.hid (HRW_4.out.kept hb)
            have HA14_5 := Lib.hid (HA14_4.out.below hb HA14_4.out.lt)
            have HNE : Hid (g14 < q4.heap.size) := HA14_4.out.lt
            have HNV13 := Lib.hid HRV_4.out.ne_new
            have HNW13 := Lib.hid HRW_4.out.ne_new
            clear hb
            generalize q4.alloc (.cells #[.int .i64 0, .slice none 0 0, .slice none 0 0] 26) = q5 at *
            generalize q4.heap.size = g13 at *
            refine hK.out _ _ (HS.out q5 HB5.out) (fun hS => ?_)
            clear hK K
            try simp only [Act.put, List.getElem_toArray, List.getElem_cons_succ, List.getElem_cons_zero, List.setIfInBounds_toArray, List.set_cons_zero, List.set_cons_succ]
            refine wpAnyH_ready (rs := [15]) (by kernel_rfl) (by simp) ?_
            refine AllReadyH.cons rfl (fun K hK => ?_) AllReadyH.nil
            have z0 : q5.cell? ⟨g13, 0, none⟩ = some (.int .i64 0) := HA13_5.out.cell 0
            have z1 : q5.cell? ⟨g13, 1, none⟩ = some (.slice none 0 0) := HA13_5.out.cell 1
            have z2 : q5.cell? ⟨g13, 2, none⟩ = some (.slice none 0 0) := HA13_5.out.cell 2
            have f0 := HA13_5.out.free 0
            have f1 := HA13_5.out.free 1
            have f2 := HA13_5.out.free 2
            have HA13_6 := Lib.hid (st3_blk HA13_5.out rfl (.int .i64 0) (.slice pv nv cv) (.slice none 0 0))
            have HA14_6 := Lib.hid (blk_st3 (g := g13) HA14_5.out (Nat.ne_of_lt HNE.out) (.int .i64 0) (.slice pv nv cv) (.slice none 0 0))
            have HRV_6 := Lib.hid (row_st3N HRV_5.out HNV13.out (.int .i64 0) (.slice pv nv cv) (.slice none 0 0))
            have HRW_6 := Lib.hid (row_st3N HRW_5.out HNW13.out (.int .i64 0) (.slice pv nv cv) (.slice none 0 0))
            have HB6 := Lib.hid (st3_below (g := g13) HB5.out HG13.out (.int .i64 0) (.slice pv nv cv) (.slice none 0 0))
            unfold st3 at HA13_6 HA14_6 HRV_6 HRW_6 HB6
            go_simp
            generalize (((q5.setCell ⟨g13, 0, none⟩ (.int .i64 0)).setCell ⟨g13, 1, none⟩ (.slice pv nv cv)).setCell ⟨g13, 2, none⟩ (.slice none 0 0)) = q6 at *
            clear z0 z1 z2 f0 f1 f2
            refine hK.out _ _ (HS.out q6 HB6.out) (fun hS => ?_)
            clear hK K
            try simp only [Act.put, List.getElem_toArray, List.getElem_cons_succ, List.getElem_cons_zero, List.setIfInBounds_toArray, List.set_cons_zero, List.set_cons_succ]
            refine wpAnyH_ready (rs := [16]) (by kernel_rfl) (by simp) ?_
            refine AllReadyH.cons rfl (fun K hK => ?_) AllReadyH.nil
            have z0 : q6.cell? ⟨g14, 0, none⟩ = some (.int .i64 0) := HA14_6.out.cell 0
            have z1 : q6.cell? ⟨g14, 1, none⟩ = some (.slice none 0 0) := HA14_6.out.cell 1
            have z2 : q6.cell? ⟨g14, 2, none⟩ = some (.slice none 0 0) := HA14_6.out.cell 2
            have f0 := HA14_6.out.free 0
            have f1 := HA14_6.out.free 1
            have f2 := HA14_6.out.free 2
            have HA14_7 := Lib.hid (st3_blk HA14_6.out rfl (.int .i64 1) (.slice pw nw cw) (.slice none 0 0))
            have HA13_7 := Lib.hid (blk_st3 (g := g14) HA13_6.out (Nat.ne_of_gt HNE.out) (.int .i64 1) (.slice pw nw cw) (.slice none 0 0))
            have HRV_7 := Lib.hid (row_st3N HRV_6.out HNV14.out (.int .i64 1) (.slice pw nw cw) (.slice none 0 0))
            have HRW_7 := Lib.hid (row_st3N HRW_6.out HNW14.out (.int .i64 1) (.slice pw nw cw) (.slice none 0 0))
            have HB7 := Lib.hid (st3_below (g := g14) HB6.out HG14.out (.int .i64 1) (.slice pw nw cw) (.slice none 0 0))
            unfold st3 at HA13_7 HA14_7 HRV_7 HRW_7 HB7
            go_simp
            generalize (((q6.setCell ⟨g14, 0, none⟩ (.int .i64 1)).setCell ⟨g14, 1, none⟩ (.slice pw nw cw)).setCell ⟨g14, 2, none⟩ (.slice none 0 0)) = q7 at *
            clear z0 z1 z2 f0 f1 f2
            refine hK.out _ _ (HS.out q7 HB7.out) (fun hS => ?_)
            clear hK K
            try simp only [Act.put, List.getElem_toArray, List.getElem_cons_succ, List.getElem_cons_zero, List.setIfInBounds_toArray, List.set_cons_zero, List.set_cons_succ]
            refine wpAnyH_take (i := 17) (v := ?_) rfl (by kernel_rfl) (by kernel_rfl) (by kernel_rfl) (fun _ _ _ h => h) (Or.inl ⟨by kernel_rfl, ?_⟩) (by first | assumption | trivial) ?_
            rotate_left
            · intro w hSw
              try dsimp only at hSw
              first | (go_simp; done) | (go_simp; with_reducible rfl)
            try simp only [Act.put, List.getElem_toArray, List.getElem_cons_succ, List.getElem_cons_zero, List.setIfInBounds_toArray, List.set_cons_zero, List.set_cons_succ]
            refine wpAnyH_done (by kernel_rfl) ?_ _
            go_wp2_with fail
            go_meet
            case rel => exact ⟨g13, g14, pv, nv, cv, pw, nw, cw, rfl, rfl, rfl, HA13_7.out, HA14_7.out, HRV_7.out, HRW_7.out, HLV.out, HLW.out, HB7.out⟩
        · skip
          go_simp
          have hb := oneB q2 (.cells #[.int .i64 0, .slice none 0 0, .slice none 0 0] 26)
          have HB3 := Lib.hid (HB2.out.trans (hb.mono HB2.out.size))
          have HA13_3 := Lib.hid (Blk.new q2 #[.int .i64 0, .slice none 0 0, .slice none 0 0] 26)
          have HG13 : Hid (WB.heap.size ≤ q2.heap.size) := HB2.out.size
          have HR3_3 := Lib.hid (HR3_2.out.kept hb)
          have HR7_3 := Lib.hid (HR7_2.out.kept hb)
          clear hb
          generalize q2.alloc (.cells #[.int .i64 0, .slice none 0 0, .slice none 0 0] 26) = q3 at *
          generalize q2.heap.size = g13 at *
          refine hK.out _ _ (HS.out q3 HB3.out) (fun hS => ?_)
          clear hK K
          try simp only [Act.put, List.getElem_toArray, List.getElem_cons_succ, List.getElem_cons_zero, List.setIfInBounds_toArray, List.set_cons_zero, List.set_cons_succ]
          refine wpAnyH_ready (rs := [8, 14]) (by kernel_rfl) (by simp) ?_
          refine AllReadyH.cons rfl (fun K hK => ?_) (AllReadyH.cons rfl (fun K hK => ?_) AllReadyH.nil)
          · skip
            go_simp
            go_at_call 9
            refine (HTW2.out q3 _ _ HR3_3.out HR7_3.out).mono ?_
            rintro y q4 ⟨pv, nv, cv, pw, nw, cw, rfl, hrv, hlv, hrw, hlw, hb, hov, how⟩
            have HB4 := Lib.hid (HB3.out.trans (hb.mono HB3.out.size))
            have HR3_4 := Lib.hid (HR3_3.out.kept hb)
            have HR7_4 := Lib.hid (HR7_3.out.kept hb)
            have HA13_4 := Lib.hid (HA13_3.out.below hb HA13_3.out.lt)
            have HRV_4 := Lib.hid hrv
            have HRW_4 := Lib.hid hrw
            have HLV := Lib.hid hlv
            have HLW := Lib.hid hlw
            have HNV13 : Hid (NeB (.slice pv nv cv) (keepL cur X) g13) := .inr (fun k hk => by have := hov k hk; have := HA13_3.out.lt; omega)
            have HNW13 : Hid (NeB (.slice pw nw cw) (keepL cur Y) g13) := .inr (fun k hk => by have := how k hk; have := HA13_3.out.lt; omega)
            clear hrv hlv hrw hlw hb hov how
            try go_wp2_with fail
            refine hK.out _ _ (HS.out q4 HB4.out) (fun hS => ?_)
            clear hK K
            try simp only [Act.put, List.getElem_toArray, List.getElem_cons_succ, List.getElem_cons_zero, List.setIfInBounds_toArray, List.set_cons_zero, List.set_cons_succ]
            refine wpAnyH_take (i := 9) (v := ?_) rfl (by kernel_rfl) (by kernel_rfl) (by kernel_rfl) (fun _ _ _ h => h) (Or.inl ⟨by kernel_rfl, ?_⟩) (by first | assumption | trivial) ?_
            rotate_left
            · intro w hSw
              try dsimp only at hSw
              first | (go_simp; done) | (go_simp; with_reducible rfl)
            try simp only [Act.put, List.getElem_toArray, List.getElem_cons_succ, List.getElem_cons_zero, List.setIfInBounds_toArray, List.set_cons_zero, List.set_cons_succ]
            refine wpAnyH_take (i := 10) (v := ?_) rfl (by kernel_rfl) (by kernel_rfl) (by kernel_rfl) (fun _ _ _ h => h) (Or.inl ⟨by kernel_rfl, ?_⟩) (by first | assumption | trivial) ?_
            rotate_left
            · intro w hSw
              try dsimp only at hSw
              first | (go_simp; done) | (go_simp; with_reducible rfl)
            try simp only [Act.put, List.getElem_toArray, List.getElem_cons_succ, List.getElem_cons_zero, List.setIfInBounds_toArray, List.set_cons_zero, List.set_cons_succ]
            refine wpAnyH_take (i := 11) (v := ?_) rfl (by kernel_rfl) (by kernel_rfl) (by kernel_rfl) (fun _ _ _ h => h) (Or.inl ⟨by kernel_rfl, ?_⟩) (by first | assumption | trivial) ?_
            rotate_left
            · intro w hSw
              try dsimp only at hSw
              first | (go_simp; done) | (go_simp; with_reducible rfl)
            try simp only [Act.put, List.getElem_toArray, List.getElem_cons_succ, List.getElem_cons_zero, List.setIfInBounds_toArray, List.set_cons_zero, List.set_cons_succ]
            refine wpAnyH_take (i := 12) (v := ?_) rfl (by kernel_rfl) (by kernel_rfl) (by kernel_rfl) (fun _ _ _ h => h) (Or.inl ⟨by kernel_rfl, ?_⟩) (by first | assumption | trivial) ?_
            rotate_left
            · intro w hSw
              try dsimp only at hSw
              first | (go_simp; done) | (go_simp; with_reducible rfl)
            try simp only [Act.put, List.getElem_toArray, List.getElem_cons_succ, List.getElem_cons_zero, List.setIfInBounds_toArray, List.set_cons_zero, List.set_cons_succ]
            refine wpAnyH_ready (rs := [14]) (by kernel_rfl) (by simp) ?_
            refine AllReadyH.cons rfl (fun K hK => ?_) AllReadyH.nil
            go_simp
            have hb := oneB q4 (.cells #[.int .i64 0, .slice none 0 0, .slice none 0 0] 26)
            have HB5 := Lib.hid (HB4.out.trans (hb.mono HB4.out.size))
            have HA14_5 := Lib.hid (Blk.new q4 #[.int .i64 0, .slice none 0 0, .slice none 0 0] 26)
            have HG14 : Hid (WB.heap.size ≤ q4.heap.size) := HB4.out.size
            have HR3_5 := Lib.hid (HR3_4.out.kept hb)
            have HR7_5 := Lib.hid (HR7_4.out.kept hb)
            have HA13_5 := Lib.hid (HA13_4.out.below hb HA13_4.out.lt)
            have HRV_5 := Lib.hid (HRV_4.out.kept hb)
            have HRW_5 := Lib.hid (HRW_4.out.kept hb)
            have HNE : Hid (g13 < q4.heap.size) := HA13_4.out.lt
            have HNV14 := Lib.hid HRV_4.out.ne_new
            have HNW14 := Lib.hid HRW_4.out.ne_new
            clear hb
            generalize q4.alloc (.cells #[.int .i64 0, .slice none 0 0, .slice none 0 0] 26) = q5 at *
            generalize q4.heap.size = g14 at *
            refine hK.out _ _ (HS.out q5 HB5.out) (fun hS => ?_)
            clear hK K
            try simp only [Act.put, List.getElem_toArray, List.getElem_cons_succ, List.getElem_cons_zero, List.setIfInBounds_toArray, List.set_cons_zero, List.set_cons_succ]
            refine wpAnyH_ready (rs := [15]) (by kernel_rfl) (by simp) ?_
            refine AllReadyH.cons rfl (fun K hK => ?_) AllReadyH.nil
            have z0 : q5.cell? ⟨g13, 0, none⟩ = some (.int .i64 0) := HA13_5.out.cell 0
            have z1 : q5.cell? ⟨g13, 1, none⟩ = some (.slice none 0 0) := HA13_5.out.cell 1
            have z2 : q5.cell? ⟨g13, 2, none⟩ = some (.slice none 0 0) := HA13_5.out.cell 2
            have f0 := HA13_5.out.free 0
            have f1 := HA13_5.out.free 1
            have f2 := HA13_5.out.free 2
            have HA13_6 := Lib.hid (st3_blk HA13_5.out rfl (.int .i64 0) (.slice pv nv cv) (.slice none 0 0))
            have HA14_6 := Lib.hid (blk_st3 (g := g13) HA14_5.out (Nat.ne_of_gt HNE.out) (.int .i64 0) (.slice pv nv cv) (.slice none 0 0))
            have HRV_6 := Lib.hid (row_st3N HRV_5.out HNV13.out (.int .i64 0) (.slice pv nv cv) (.slice none 0 0))
            have HRW_6 := Lib.hid (row_st3N HRW_5.out HNW13.out (.int .i64 0) (.slice pv nv cv) (.slice none 0 0))
            have HB6 := Lib.hid (st3_below (g := g13) HB5.out HG13.out (.int .i64 0) (.slice pv nv cv) (.slice none 0 0))
            unfold st3 at HA13_6 HA14_6 HRV_6 HRW_6 HB6
            go_simp
            generalize (((q5.setCell ⟨g13, 0, none⟩ (.int .i64 0)).setCell ⟨g13, 1, none⟩ (.slice pv nv cv)).setCell ⟨g13, 2, none⟩ (.slice none 0 0)) = q6 at *
            clear z0 z1 z2 f0 f1 f2
            refine hK.out _ _ (HS.out q6 HB6.out) (fun hS => ?_)
            clear hK K
            try simp only [Act.put, List.getElem_toArray, List.getElem_cons_succ, List.getElem_cons_zero, List.setIfInBounds_toArray, List.set_cons_zero, List.set_cons_succ]
            refine wpAnyH_ready (rs := [16]) (by kernel_rfl) (by simp) ?_
            refine AllReadyH.cons rfl (fun K hK => ?_) AllReadyH.nil
            have z0 : q6.cell? ⟨g14, 0, none⟩ = some (.int .i64 0) := HA14_6.out.cell 0
            have z1 : q6.cell? ⟨g14, 1, none⟩ = some (.slice none 0 0) := HA14_6.out.cell 1
            have z2 : q6.cell? ⟨g14, 2, none⟩ = some (.slice none 0 0) := HA14_6.out.cell 2
            have f0 := HA14_6.out.free 0
            have f1 := HA14_6.out.free 1
            have f2 := HA14_6.out.free 2
            have HA14_7 := Lib.hid (st3_blk HA14_6.out rfl (.int .i64 1) (.slice pw nw cw) (.slice none 0 0))
            have HA13_7 := Lib.hid (blk_st3 (g := g14) HA13_6.out (Nat.ne_of_lt HNE.out) (.int .i64 1) (.slice pw nw cw) (.slice none 0 0))
            have HRV_7 := Lib.hid (row_st3N HRV_6.out HNV14.out (.int .i64 1) (.slice pw nw cw) (.slice none 0 0))
            have HRW_7 := Lib.hid (row_st3N HRW_6.out HNW14.out (.int .i64 1) (.slice pw nw cw) (.slice none 0 0))
            have HB7 := Lib.hid (st3_below (g := g14) HB6.out HG14.out (.int .i64 1) (.slice pw nw cw) (.slice none 0 0))
            unfold st3 at HA13_7 HA14_7 HRV_7 HRW_7 HB7
            go_simp
            generalize (((q6.setCell ⟨g14, 0, none⟩ (.int .i64 1)).setCell ⟨g14, 1, none⟩ (.slice pw nw cw)).setCell ⟨g14, 2, none⟩ (.slice none 0 0)) = q7 at *
            clear z0 z1 z2 f0 f1 f2
            refine hK.out _ _ (HS.out q7 HB7.out) (fun hS => ?_)
            clear hK K
            try simp only [Act.put, List.getElem_toArray, List.getElem_cons_succ, List.getElem_cons_zero, List.setIfInBounds_toArray, List.set_cons_zero, List.set_cons_succ]
            refine wpAnyH_take (i := 17) (v := ?_) rfl (by kernel_rfl) (by kernel_rfl) (by kernel_rfl) (fun _ _ _ h => h) (Or.inl ⟨by kernel_rfl, ?_⟩) (by first | assumption | trivial) ?_
            rotate_left
            · intro w hSw
              try dsimp only at hSw
              first | (go_simp; done) | (go_simp; with_reducible rfl)
            try simp only [Act.put, List.getElem_toArray, List.getElem_cons_succ, List.getElem_cons_zero, List.setIfInBounds_toArray, List.set_cons_zero, List.set_cons_succ]
            refine wpAnyH_done (by kernel_rfl) ?_ _
            go_wp2_with fail
            go_meet
            case rel => exact ⟨g13, g14, pv, nv, cv, pw, nw, cw, rfl, rfl, rfl, HA13_7.out, HA14_7.out, HRV_7.out, HRW_7.out, HLV.out, HLW.out, HB7.out⟩
          · skip
            go_simp
            have hb := oneB q3 (.cells #[.int .i64 0, .slice none 0 0, .slice none 0 0] 26)
            have HB4 := Lib.hid (HB3.out.trans (hb.mono HB3.out.size))
            have HA14_4 := Lib.hid (Blk.new q3 #[.int .i64 0, .slice none 0 0, .slice none 0 0] 26)
            have HG14 : Hid (WB.heap.size ≤ q3.heap.size) := HB3.out.size
            have HR3_4 := Lib.hid (HR3_3.out.kept hb)
            have HR7_4 := Lib.hid (HR7_3.out.kept hb)
            have HA13_4 := Lib.hid (HA13_3.out.below hb HA13_3.out.lt)
            have HNE : Hid (g13 < q3.heap.size) := HA13_3.out.lt
            clear hb
            generalize q3.alloc (.cells #[.int .i64 0, .slice none 0 0, .slice none 0 0] 26) = q4 at *
            generalize q3.heap.size = g14 at *
            refine hK.out _ _ (HS.out q4 HB4.out) (fun hS => ?_)
            clear hK K
            try simp only [Act.put, List.getElem_toArray, List.getElem_cons_succ, List.getElem_cons_zero, List.setIfInBounds_toArray, List.set_cons_zero, List.set_cons_succ]
            refine wpAnyH_ready (rs := [8]) (by kernel_rfl) (by simp) ?_
            refine AllReadyH.cons rfl (fun K hK => ?_) AllReadyH.nil
            go_simp
            go_at_call 9
            refine (HTW2.out q4 _ _ HR3_4.out HR7_4.out).mono ?_
            rintro y q5 ⟨pv, nv, cv, pw, nw, cw, rfl, hrv, hlv, hrw, hlw, hb, hov, how⟩
            have HB5 := Lib.hid (HB4.out.trans (hb.mono HB4.out.size))
            have HR3_5 := Lib.hid (HR3_4.out.kept hb)
            have HR7_5 := Lib.hid (HR7_4.out.kept hb)
            have HA13_5 := Lib.hid (HA13_4.out.below hb HA13_4.out.lt)
            have HA14_5 := Lib.hid (HA14_4.out.below hb HA14_4.out.lt)
            have HRV_5 := Lib.hid hrv
            have HRW_5 := Lib.hid hrw
            have HLV := Lib.hid hlv
            have HLW := Lib.hid hlw
            have HNV13 : Hid (NeB (.slice pv nv cv) (keepL cur X) g13) := .inr (fun k hk => by have := hov k hk; have := HA13_4.out.lt; omega)
            have HNW13 : Hid (NeB (.slice pw nw cw) (keepL cur Y) g13) := .inr (fun k hk => by have := how k hk; have := HA13_4.out.lt; omega)
            have HNV14 : Hid (NeB (.slice pv nv cv) (keepL cur X) g14) := .inr (fun k hk => by have := hov k hk; have := HA14_4.out.lt; omega)
            have HNW14 : Hid (NeB (.slice pw nw cw) (keepL cur Y) g14) := .inr (fun k hk => by have := how k hk; have := HA14_4.out.lt; omega)
            clear hrv hlv hrw hlw hb hov how
            try go_wp2_with fail
            refine hK.out _ _ (HS.out q5 HB5.out) (fun hS => ?_)
            clear hK K
            try simp only [Act.put, List.getElem_toArray, List.getElem_cons_succ, List.getElem_cons_zero, List.setIfInBounds_toArray, List.set_cons_zero, List.set_cons_succ]
            refine wpAnyH_take (i := 9) (v := ?_) rfl (by kernel_rfl) (by kernel_rfl) (by kernel_rfl) (fun _ _ _ h => h) (Or.inl ⟨by kernel_rfl, ?_⟩) (by first | assumption | trivial) ?_
            rotate_left
            · intro w hSw
              try dsimp only at hSw
              first | (go_simp; done) | (go_simp; with_reducible rfl)
            try simp only [Act.put, List.getElem_toArray, List.getElem_cons_succ, List.getElem_cons_zero, List.setIfInBounds_toArray, List.set_cons_zero, List.set_cons_succ]
            refine wpAnyH_take (i := 10) (v := ?_) rfl (by kernel_rfl) (by kernel_rfl) (by kernel_rfl) (fun _ _ _ h => h) (Or.inl ⟨by kernel_rfl, ?_⟩) (by first | assumption | trivial) ?_
            rotate_left
            · intro w hSw
              try dsimp only at hSw
              first | (go_simp; done) | (go_simp; with_reducible rfl)
            try simp only [Act.put, List.getElem_toArray, List.getElem_cons_succ, List.getElem_cons_zero, List.setIfInBounds_toArray, List.set_cons_zero, List.set_cons_succ]
            refine wpAnyH_take (i := 11) (v := ?_) rfl (by kernel_rfl) (by kernel_rfl) (by kernel_rfl) (fun _ _ _ h => h) (Or.inl ⟨by kernel_rfl, ?_⟩) (by first | assumption | trivial) ?_
            rotate_left
            · intro w hSw
              try dsimp only at hSw
              first | (go_simp; done) | (go_simp; with_reducible rfl)
            try simp only [Act.put, List.getElem_toArray, List.getElem_cons_succ, List.getElem_cons_zero, List.setIfInBounds_toArray, List.set_cons_zero, List.set_cons_succ]
            refine wpAnyH_take (i := 12) (v := ?_) rfl (by kernel_rfl) (by kernel_rfl) (by kernel_rfl) (fun _ _ _ h => h) (Or.inl ⟨by kernel_rfl, ?_⟩) (by first | assumption | trivial) ?_
            rotate_left
            · intro w hSw
              try dsimp only at hSw
              first | (go_simp; done) | (go_simp; with_reducible rfl)
            try simp only [Act.put, List.getElem_toArray, List.getElem_cons_succ, List.getElem_cons_zero, List.setIfInBounds_toArray, List.set_cons_zero, List.set_cons_succ]
            refine wpAnyH_ready (rs := [15]) (by kernel_rfl) (by simp) ?_
            refine AllReadyH.cons rfl (fun K hK => ?_) AllReadyH.nil
            have z0 : q5.cell? ⟨g13, 0, none⟩ = some (.int .i64 0) := HA13_5.out.cell 0
            have z1 : q5.cell? ⟨g13, 1, none⟩ = some (.slice none 0 0) := HA13_5.out.cell 1
            have z2 : q5.cell? ⟨g13, 2, none⟩ = some (.slice none 0 0) := HA13_5.out.cell 2
            have f0 := HA13_5.out.free 0
            have f1 := HA13_5.out.free 1
            have f2 := HA13_5.out.free 2
            have HA13_6 := Lib.hid (st3_blk HA13_5.out rfl (.int .i64 0) (.slice pv nv cv) (.slice none 0 0))
            have HA14_6 := Lib.hid (blk_st3 (g := g13) HA14_5.out (Nat.ne_of_gt HNE.out) (.int .i64 0) (.slice pv nv cv) (.slice none 0 0))
            have HRV_6 := Lib.hid (row_st3N HRV_5.out HNV13.out (.int .i64 0) (.slice pv nv cv) (.slice none 0 0))
            have HRW_6 := Lib.hid (row_st3N HRW_5.out HNW13.out (.int .i64 0) (.slice pv nv cv) (.slice none 0 0))
            have HB6 := Lib.hid (st3_below (g := g13) HB5.out HG13.out (.int .i64 0) (.slice pv nv cv) (.slice none 0 0))
            unfold st3 at HA13_6 HA14_6 HRV_6 HRW_6 HB6
            go_simp
            generalize (((q5.setCell ⟨g13, 0, none⟩ (.int .i64 0)).setCell ⟨g13, 1, none⟩ (.slice pv nv cv)).setCell ⟨g13, 2, none⟩ (.slice none 0 0)) = q6 at *
            clear z0 z1 z2 f0 f1 f2
            refine hK.out _ _ (HS.out q6 HB6.out) (fun hS => ?_)
            clear hK K
            try simp only [Act.put, List.getElem_toArray, List.getElem_cons_succ, List.getElem_cons_zero, List.setIfInBounds_toArray, List.set_cons_zero, List.set_cons_succ]
            refine wpAnyH_ready (rs := [16]) (by kernel_rfl) (by simp) ?_
            refine AllReadyH.cons rfl (fun K hK => ?_) AllReadyH.nil
            have z0 : q6.cell? ⟨g14, 0, none⟩ = some (.int .i64 0) := HA14_6.out.cell 0
            have z1 : q6.cell? ⟨g14, 1, none⟩ = some (.slice none 0 0) := HA14_6.out.cell 1
            have z2 : q6.cell? ⟨g14, 2, none⟩ = some (.slice none 0 0) := HA14_6.out.cell 2
            have f0 := HA14_6.out.free 0
            have f1 := HA14_6.out.free 1
            have f2 := HA14_6.out.free 2
            have HA14_7 := Lib.hid (st3_blk HA14_6.out rfl (.int .i64 1) (.slice pw nw cw) (.slice none 0 0))
            have HA13_7 := Lib.hid (blk_st3 (g := g14) HA13_6.out (Nat.ne_of_lt HNE.out) (.int .i64 1) (.slice pw nw cw) (.slice none 0 0))
            have HRV_7 := Lib.hid (row_st3N HRV_6.out HNV14.out (.int .i64 1) (.slice pw nw cw) (.slice none 0 0))
            have HRW_7 := Lib.hid (row_st3N HRW_6.out HNW14.out (.int .i64 1) (.slice pw nw cw) (.slice none 0 0))
            have HB7 := Lib.hid (st3_below (g := g14) HB6.out HG14.out (.int .i64 1) (.slice pw nw cw) (.slice none 0 0))
            unfold st3 at HA13_7 HA14_7 HRV_7 HRW_7 HB7
            go_simp
            generalize (((q6.setCell ⟨g14, 0, none⟩ (.int .i64 1)).setCell ⟨g14, 1, none⟩ (.slice pw nw cw)).setCell ⟨g14, 2, none⟩ (.slice none 0 0)) = q7 at *
            clear z0 z1 z2 f0 f1 f2
            refine hK.out _ _ (HS.out q7 HB7.out) (fun hS => ?_)
            clear hK K
            try simp only [Act.put, List.getElem_toArray, List.getElem_cons_succ, List.getElem_cons_zero, List.setIfInBounds_toArray, List.set_cons_zero, List.set_cons_succ]
            refine wpAnyH_take (i := 17) (v := ?_) rfl (by kernel_rfl) (by kernel_rfl) (by kernel_rfl) (fun _ _ _ h => h) (Or.inl ⟨by kernel_rfl, ?_⟩) (by first | assumption | trivial) ?_
            rotate_left
            · intro w hSw
              try dsimp only at hSw
              first | (go_simp; done) | (go_simp; with_reducible rfl)
            try simp only [Act.put, List.getElem_toArray, List.getElem_cons_succ, List.getElem_cons_zero, List.setIfInBounds_toArray, List.set_cons_zero, List.set_cons_succ]
            refine wpAnyH_done (by kernel_rfl) ?_ _
            go_wp2_with fail
            go_meet
            case rel => exact ⟨g13, g14, pv, nv, cv, pw, nw, cw, rfl, rfl, rfl, HA13_7.out, HA14_7.out, HRV_7.out, HRW_7.out, HLV.out, HLW.out, HB7.out⟩
        · skip
          go_simp
          have hb := oneB q2 (.cells #[.int .i64 0, .slice none 0 0, .slice none 0 0] 26)
          have HB3 := Lib.hid (HB2.out.trans (hb.mono HB2.out.size))
          have HA14_3 := Lib.hid (Blk.new q2 #[.int .i64 0, .slice none 0 0, .slice none 0 0] 26)
          have HG14 : Hid (WB.heap.size ≤ q2.heap.size) := HB2.out.size
          have HR3_3 := Lib.hid (HR3_2.out.kept hb)
          have HR7_3 := Lib.hid (HR7_2.out.kept hb)
          clear hb
          generalize q2.alloc (.cells #[.int .i64 0, .slice none 0 0, .slice none 0 0] 26) = q3 at *
          generalize q2.heap.size = g14 at *
          refine hK.out _ _ (HS.out q3 HB3.out) (fun hS => ?_)
          clear hK K
          try simp only [Act.put, List.getElem_toArray, List.getElem_cons_succ, List.getElem_cons_zero, List.setIfInBounds_toArray, List.set_cons_zero, List.set_cons_succ]
          refine wpAnyH_ready (rs := [8, 13]) (by kernel_rfl) (by simp) ?_
          refine AllReadyH.cons rfl (fun K hK => ?_) (AllReadyH.cons rfl (fun K hK => ?_) AllReadyH.nil)
          · skip
            go_simp
            go_at_call 9
            refine (HTW2.out q3 _ _ HR3_3.out HR7_3.out).mono ?_
            rintro y q4 ⟨pv, nv, cv, pw, nw, cw, rfl, hrv, hlv, hrw, hlw, hb, hov, how⟩
            have HB4 := Lib.hid (HB3.out.trans (hb.mono HB3.out.size))
            have HR3_4 := Lib.hid (HR3_3.out.kept hb)
            have HR7_4 := Lib.hid (HR7_3.out.kept hb)
            have HA14_4 := Lib.hid (HA14_3.out.below hb HA14_3.out.lt)
            have HRV_4 := Lib.hid hrv
            have HRW_4 := Lib.hid hrw
            have HLV := Lib.hid hlv
            have HLW := Lib.hid hlw
            have HNV14 : Hid (NeB (.slice pv nv cv) (keepL cur X) g14) := .inr (fun k hk => by have := hov k hk; have := HA14_3.out.lt; omega)
            have HNW14 : Hid (NeB (.slice pw nw cw) (keepL cur Y) g14) := .inr (fun k hk => by have := how k hk; have := HA14_3.out.lt; omega)
            clear hrv hlv hrw hlw hb hov how
            try go_wp2_with fail
            refine hK.out _ _ (HS.out q4 HB4.out) (fun hS => ?_)
            clear hK K
            try simp only [Act.put, List.getElem_toArray, List.getElem_cons_succ, List.getElem_cons_zero, List.setIfInBounds_toArray, List.set_cons_zero, List.set_cons_succ]
            refine wpAnyH_take (i := 9) (v := ?_) rfl (by kernel_rfl) (by kernel_rfl) (by kernel_rfl) (fun _ _ _ h => h) (Or.inl ⟨by kernel_rfl, ?_⟩) (by first | assumption | trivial) ?_
            rotate_left
            · intro w hSw
              try dsimp only at hSw
              first | (go_simp; done) | (go_simp; with_reducible rfl)
            try simp only [Act.put, List.getElem_toArray, List.getElem_cons_succ, List.getElem_cons_zero, List.setIfInBounds_toArray, List.set_cons_zero, List.set_cons_succ]
            refine wpAnyH_take (i := 10) (v := ?_) rfl (by kernel_rfl) (by kernel_rfl) (by kernel_rfl) (fun _ _ _ h => h) (Or.inl ⟨by kernel_rfl, ?_⟩) (by first | assumption | trivial) ?_
            rotate_left
            · intro w hSw
              try dsimp only at hSw
              first | (go_simp; done) | (go_simp; with_reducible rfl)
            try simp only [Act.put, List.getElem_toArray, List.getElem_cons_succ, List.getElem_cons_zero, List.setIfInBounds_toArray, List.set_cons_zero, List.set_cons_succ]
            refine wpAnyH_take (i := 11) (v := ?_) rfl (by kernel_rfl) (by kernel_rfl) (by kernel_rfl) (fun _ _ _ h => h) (Or.inl ⟨by kernel_rfl, ?_⟩) (by first | assumption | trivial) ?_
            rotate_left
            · intro w hSw
              try dsimp only at hSw
              first | (go_simp; done) | (go_simp; with_reducible rfl)
            try simp only [Act.put, List.getElem_toArray, List.getElem_cons_succ, List.getElem_cons_zero, List.setIfInBounds_toArray, List.set_cons_zero, List.set_cons_succ]
            refine wpAnyH_take (i := 12) (v := ?_) rfl (by kernel_rfl) (by kernel_rfl) (by kernel_rfl) (fun _ _ _ h => h) (Or.inl ⟨by kernel_rfl, ?_⟩) (by first | assumption | trivial) ?_
            rotate_left
            · intro w hSw
              try dsimp only at hSw
              first | (go_simp; done) | (go_simp; with_reducible rfl)
            try simp only [Act.put, List.getElem_toArray, List.getElem_cons_succ, List.getElem_cons_zero, List.setIfInBounds_toArray, List.set_cons_zero, List.set_cons_succ]
            refine wpAnyH_ready (rs := [13]) (by kernel_rfl) (by simp) ?_
            refine AllReadyH.cons rfl (fun K hK => ?_) AllReadyH.nil
            go_simp
            have hb := oneB q4 (.cells #[.int .i64 0, .slice none 0 0, .slice none 0 0] 26)
            have HB5 := Lib.hid (HB4.out.trans (hb.mono HB4.out.size))
            have HA13_5 := Lib.hid (Blk.new q4 #[.int .i64 0, .slice none 0 0, .slice none 0 0] 26)
            have HG13 : Hid (WB.heap.size ≤ q4.heap.size) := HB4.out.size
            have HR3_5 := Lib.hid (HR3_4.out.kept hb)
            have HR7_5 := Lib.hid (HR7_4.out.kept hb)
            have HA14_5 := Lib.hid (HA14_4.out.below hb HA14_4.out.lt)
            have HRV_5 := Lib.hid (HRV_4.out.kept hb)
            have HRW_5 := Lib.hid (HRW_4.out.kept hb)
            have HNE : Hid (g14 < q4.heap.size) := HA14_4.out.lt
            have HNV13 := Lib.hid HRV_4.out.ne_new
            have HNW13 := Lib.hid HRW_4.out.ne_new
            clear hb
            generalize q4.alloc (.cells #[.int .i64 0, .slice none 0 0, .slice none 0 0] 26) = q5 at *
            generalize q4.heap.size = g13 at *
            refine hK.out _ _ (HS.out q5 HB5.out) (fun hS => ?_)
            clear hK K
            try simp only [Act.put, List.getElem_toArray, List.getElem_cons_succ, List.getElem_cons_zero, List.setIfInBounds_toArray, List.set_cons_zero, List.set_cons_succ]
            refine wpAnyH_ready (rs := [15]) (by kernel_rfl) (by simp) ?_
            refine AllReadyH.cons rfl (fun K hK => ?_) AllReadyH.nil
            have z0 : q5.cell? ⟨g13, 0, none⟩ = some (.int .i64 0) := HA13_5.out.cell 0
            have z1 : q5.cell? ⟨g13, 1, none⟩ = some (.slice none 0 0) := HA13_5.out.cell 1
            have z2 : q5.cell? ⟨g13, 2, none⟩ = some (.slice none 0 0) := HA13_5.out.cell 2
            have f0 := HA13_5.out.free 0
            have f1 := HA13_5.out.free 1
            have f2 := HA13_5.out.free 2
            have HA13_6 := Lib.hid (st3_blk HA13_5.out rfl (.int .i64 0) (.slice pv nv cv) (.slice none 0 0))
            have HA14_6 := Lib.hid (blk_st3 (g := g13) HA14_5.out (Nat.ne_of_lt HNE.out) (.int .i64 0) (.slice pv nv cv) (.slice none 0 0))
            have HRV_6 := Lib.hid (row_st3N HRV_5.out HNV13.out (.int .i64 0) (.slice pv nv cv) (.slice none 0 0))
            have HRW_6 := Lib.hid (row_st3N HRW_5.out HNW13.out (.int .i64 0) (.slice pv nv cv) (.slice none 0 0))
            have HB6 := Lib.hid (st3_below (g := g13) HB5.out HG13.out (.int .i64 0) (.slice pv nv cv) (.slice none 0 0))
            unfold st3 at HA13_6 HA14_6 HRV_6 HRW_6 HB6
            go_simp
            generalize (((q5.setCell ⟨g13, 0, none⟩ (.int .i64 0)).setCell ⟨g13, 1, none⟩ (.slice pv nv cv)).setCell ⟨g13, 2, none⟩ (.slice none 0 0)) = q6 at *
            clear z0 z1 z2 f0 f1 f2
            refine hK.out _ _ (HS.out q6 HB6.out) (fun hS => ?_)
            clear hK K
            try simp only [Act.put, List.getElem_toArray, List.getElem_cons_succ, List.getElem_cons_zero, List.setIfInBounds_toArray, List.set_cons_zero, List.set_cons_succ]
            refine wpAnyH_ready (rs := [16]) (by kernel_rfl) (by simp) ?_
            refine AllReadyH.cons rfl (fun K hK => ?_) AllReadyH.nil
            have z0 : q6.cell? ⟨g14, 0, none⟩ = some (.int .i64 0) := HA14_6.out.cell 0
            have z1 : q6.cell? ⟨g14, 1, none⟩ = some (.slice none 0 0) := HA14_6.out.cell 1
            have z2 : q6.cell? ⟨g14, 2, none⟩ = some (.slice none 0 0) := HA14_6.out.cell 2
            have f0 := HA14_6.out.free 0
            have f1 := HA14_6.out.free 1
            have f2 := HA14_6.out.free 2
            have HA14_7 := Lib.hid (st3_blk HA14_6.out rfl (.int .i64 1) (.slice pw nw cw) (.slice none 0 0))
            have HA13_7 := Lib.hid (blk_st3 (g := g14) HA13_6.out (Nat.ne_of_gt HNE.out) (.int .i64 1) (.slice pw nw cw) (.slice none 0 0))
            have HRV_7 := Lib.hid (row_st3N HRV_6.out HNV14.out (.int .i64 1) (.slice pw nw cw) (.slice none 0 0))
            have HRW_7 := Lib.hid (row_st3N HRW_6.out HNW14.out (.int .i64 1) (.slice pw nw cw) (.slice none 0 0))
            have HB7 := Lib.hid (st3_below (g := g14) HB6.out HG14.out (.int .i64 1) (.slice pw nw cw) (.slice none 0 0))
            unfold st3 at HA13_7 HA14_7 HRV_7 HRW_7 HB7
            go_simp
            generalize (((q6.setCell ⟨g14, 0, none⟩ (.int .i64 1)).setCell ⟨g14, 1, none⟩ (.slice pw nw cw)).setCell ⟨g14, 2, none⟩ (.slice none 0 0)) = q7 at *
            clear z0 z1 z2 f0 f1 f2
            refine hK.out _ _ (HS.out q7 HB7.out) (fun hS => ?_)
            clear hK K
            try simp only [Act.put, List.getElem_toArray, List.getElem_cons_succ, List.getElem_cons_zero, List.setIfInBounds_toArray, List.set_cons_zero, List.set_cons_succ]
            refine wpAnyH_take (i := 17) (v := ?_) rfl (by kernel_rfl) (by kernel_rfl) (by kernel_rfl) (fun _ _ _ h => h) (Or.inl ⟨by kernel_rfl, ?_⟩) (by first | assumption | trivial) ?_
            rotate_left
            · intro w hSw
              try dsimp only at hSw
              first | (go_simp; done) | (go_simp; with_reducible rfl)
            try simp only [Act.put, List.getElem_toArray, List.getElem_cons_succ, List.getElem_cons_zero, List.setIfInBounds_toArray, List.set_cons_zero, List.set_cons_succ]
            refine wpAnyH_done (by kernel_rfl) ?_ _
            go_wp2_with fail
            go_meet
            case rel => exact ⟨g13, g14, pv, nv, cv, pw, nw, cw, rfl, rfl, rfl, HA13_7.out, HA14_7.out, HRV_7.out, HRW_7.out, HLV.out, HLW.out, HB7.out⟩
          · skip
            go_simp
            have hb := oneB q3 (.cells #[.int .i64 0, .slice none 0 0, .slice none 0 0] 26)
            have HB4 := Lib.hid (HB3.out.trans (hb.mono HB3.out.size))
            have HA13_4 := Lib.hid (Blk.new q3 #[.int .i64 0, .slice none 0 0, .slice none 0 0] 26)
            have HG13 : Hid (WB.heap.size ≤ q3.heap.size) := HB3.out.size
            have HR3_4 := Lib.hid (HR3_3.out.kept hb)
            have HR7_4 := Lib.hid (HR7_3.out.kept hb)
            have HA14_4 := Lib.hid (HA14_3.out.below hb HA14_3.out.lt)
            have HNE : Hid (g14 < q3.heap.size) := HA14_3.out.lt
            clear hb
            generalize q3.alloc (.cells #[.int .i64 0, .slice none 0 0, .slice none 0 0] 26) = q4 at *
            generalize q3.heap.size = g13 at *
            refine hK.out _ _ (HS.out q4 HB4.out) (fun hS => ?_)
            clear hK K
            try simp only [Act.put, List.getElem_toArray, List.getElem_cons_succ, List.getElem_cons_zero, List.setIfInBounds_toArray, List.set_cons_zero, List.set_cons_succ]
            refine wpAnyH_ready (rs := [8]) (by kernel_rfl) (by simp) ?_
            refine AllReadyH.cons rfl (fun K hK => ?_) AllReadyH.nil
            go_simp
            go_at_call 9
            refine (HTW2.out q4 _ _ HR3_4.out HR7_4.out).mono ?_
            rintro y q5 ⟨pv, nv, cv, pw, nw, cw, rfl, hrv, hlv, hrw, hlw, hb, hov, how⟩
            have HB5 := Lib.hid (HB4.out.trans (hb.mono HB4.out.size))
            have HR3_5 := Lib.hid (HR3_4.out.kept hb)
            have HR7_5 := Lib.hid (HR7_4.out.kept hb)
            have HA14_5 := Lib.hid (HA14_4.out.below hb HA14_4.out.lt)
            have HA13_5 := Lib.hid (HA13_4.out.below hb HA13_4.out.lt)
            have HRV_5 := Lib.hid hrv
            have HRW_5 := Lib.hid hrw
            have HLV := Lib.hid hlv
            have HLW := Lib.hid hlw
            have HNV14 : Hid (NeB (.slice pv nv cv) (keepL cur X) g14) := .inr (fun k hk => by have := hov k hk; have := HA14_4.out.lt; omega)
            have HNW14 : Hid (NeB (.slice pw nw cw) (keepL cur Y) g14) := .inr (fun k hk => by have := how k hk; have := HA14_4.out.lt; omega)
            have HNV13 : Hid (NeB (.slice pv nv cv) (keepL cur X) g13) := .inr (fun k hk => by have := hov k hk; have := HA13_4.out.lt; omega)
            have HNW13 : Hid (NeB (.slice pw nw cw) (keepL cur Y) g13) := .inr (fun k hk => by have := how k hk; have := HA13_4.out.lt; omega)
            clear hrv hlv hrw hlw hb hov how
            try go_wp2_with fail
            refine hK.out _ _ (HS.out q5 HB5.out) (fun hS => ?_)
            clear hK K
            try simp only [Act.put, List.getElem_toArray, List.getElem_cons_succ, List.getElem_cons_zero, List.setIfInBounds_toArray, List.set_cons_zero, List.set_cons_succ]
            refine wpAnyH_take (i := 9) (v := ?_) rfl (by kernel_rfl) (by kernel_rfl) (by kernel_rfl) (fun _ _ _ h => h) (Or.inl ⟨by kernel_rfl, ?_⟩) (by first | assumption | trivial) ?_
            rotate_left
            · intro w hSw
              try dsimp only at hSw
              first | (go_simp; done) | (go_simp; with_reducible rfl)
            try simp only [Act.put, List.getElem_toArray, List.getElem_cons_succ, List.getElem_cons_zero, List.setIfInBounds_toArray, List.set_cons_zero, List.set_cons_succ]
            refine wpAnyH_take (i := 10) (v := ?_) rfl (by kernel_rfl) (by kernel_rfl) (by kernel_rfl) (fun _ _ _ h => h) (Or.inl ⟨by kernel_rfl, ?_⟩) (by first | assumption | trivial) ?_
            rotate_left
            · intro w hSw
              try dsimp only at hSw
              first | (go_simp; done) | (go_simp; with_reducible rfl)
            try simp only [Act.put, List.getElem_toArray, List.getElem_cons_succ, List.getElem_cons_zero, List.setIfInBounds_toArray, List.set_cons_zero, List.set_cons_succ]
            refine wpAnyH_take (i := 11) (v := ?_) rfl (by kernel_rfl) (by kernel_rfl) (by kernel_rfl) (fun _ _ _ h => h) (Or.inl ⟨by kernel_rfl, ?_⟩) (by first | assumption | trivial) ?_
            rotate_left
            · intro w hSw
              try dsimp only at hSw
              first | (go_simp; done) | (go_simp; with_reducible rfl)
            try simp only [Act.put, List.getElem_toArray, List.getElem_cons_succ, List.getElem_cons_zero, List.setIfInBounds_toArray, List.set_cons_zero, List.set_cons_succ]
            refine wpAnyH_take (i := 12) (v := ?_) rfl (by kernel_rfl) (by kernel_rfl) (by kernel_rfl) (fun _ _ _ h => h) (Or.inl ⟨by kernel_rfl, ?_⟩) (by first | assumption | trivial) ?_
            rotate_left
            · intro w hSw
              try dsimp only at hSw
              first | (go_simp; done) | (go_simp; with_reducible rfl)
            try simp only [Act.put, List.getElem_toArray, List.getElem_cons_succ, List.getElem_cons_zero, List.setIfInBounds_toArray, List.set_cons_zero, List.set_cons_succ]
            refine wpAnyH_ready (rs := [15]) (by kernel_rfl) (by simp) ?_
            refine AllReadyH.cons rfl (fun K hK => ?_) AllReadyH.nil
            have z0 : q5.cell? ⟨g13, 0, none⟩ = some (.int .i64 0) := HA13_5.out.cell 0
            have z1 : q5.cell? ⟨g13, 1, none⟩ = some (.slice none 0 0) := HA13_5.out.cell 1
            have z2 : q5.cell? ⟨g13, 2, none⟩ = some (.slice none 0 0) := HA13_5.out.cell 2
            have f0 := HA13_5.out.free 0
            have f1 := HA13_5.out.free 1
            have f2 := HA13_5.out.free 2
            have HA13_6 := Lib.hid (st3_blk HA13_5.out rfl (.int .i64 0) (.slice pv nv cv) (.slice none 0 0))
            have HA14_6 := Lib.hid (blk_st3 (g := g13) HA14_5.out (Nat.ne_of_lt HNE.out) (.int .i64 0) (.slice pv nv cv) (.slice none 0 0))
            have HRV_6 := Lib.hid (row_st3N HRV_5.out HNV13.out (.int .i64 0) (.slice pv nv cv) (.slice none 0 0))
            have HRW_6 := Lib.hid (row_st3N HRW_5.out HNW13.out (.int .i64 0) (.slice pv nv cv) (.slice none 0 0))
            have HB6 := Lib.hid (st3_below (g := g13) HB5.out HG13.out (.int .i64 0) (.slice pv nv cv) (.slice none 0 0))
            unfold st3 at HA13_6 HA14_6 HRV_6 HRW_6 HB6
            go_simp
            generalize (((q5.setCell ⟨g13, 0, none⟩ (.int .i64 0)).setCell ⟨g13, 1, none⟩ (.slice pv nv cv)).setCell ⟨g13, 2, none⟩ (.slice none 0 0)) = q6 at *
            clear z0 z1 z2 f0 f1 f2
            refine hK.out _ _ (HS.out q6 HB6.out) (fun hS => ?_)
            clear hK K
            try simp only [Act.put, List.getElem_toArray, List.getElem_cons_succ, List.getElem_cons_zero, List.setIfInBounds_toArray, List.set_cons_zero, List.set_cons_succ]
            refine wpAnyH_ready (rs := [16]) (by kernel_rfl) (by simp) ?_
            refine AllReadyH.cons rfl (fun K hK => ?_) AllReadyH.nil
            have z0 : q6.cell? ⟨g14, 0, none⟩ = some (.int .i64 0) := HA14_6.out.cell 0
            have z1 : q6.cell? ⟨g14, 1, none⟩ = some (.slice none 0 0) := HA14_6.out.cell 1
            have z2 : q6.cell? ⟨g14, 2, none⟩ = some (.slice none 0 0) := HA14_6.out.cell 2
            have f0 := HA14_6.out.free 0
            have f1 := HA14_6.out.free 1
            have f2 := HA14_6.out.free 2
            have HA14_7 := Lib.hid (st3_blk HA14_6.out rfl (.int .i64 1) (.slice pw nw cw) (.slice none 0 0))
            have HA13_7 := Lib.hid (blk_st3 (g := g14) HA13_6.out (Nat.ne_of_gt HNE.out) (.int .i64 1) (.slice pw nw cw) (.slice none 0 0))
            have HRV_7 := Lib.hid (row_st3N HRV_6.out HNV14.out (.int .i64 1) (.slice pw nw cw) (.slice none 0 0))
            have HRW_7 := Lib.hid (row_st3N HRW_6.out HNW14.out (.int .i64 1) (.slice pw nw cw) (.slice none 0 0))
            have HB7 := Lib.hid (st3_below (g := g14) HB6.out HG14.out (.int .i64 1) (.slice pw nw cw) (.slice none 0 0))
            unfold st3 at HA13_7 HA14_7 HRV_7 HRW_7 HB7
            go_simp
            generalize (((q6.setCell ⟨g14, 0, none⟩ (.int .i64 1)).setCell ⟨g14, 1, none⟩ (.slice pw nw cw)).setCell ⟨g14, 2, none⟩ (.slice none 0 0)) = q7 at *
            clear z0 z1 z2 f0 f1 f2
            refine hK.out _ _ (HS.out q7 HB7.out) (fun hS => ?_)
            clear hK K
            try simp only [Act.put, List.getElem_toArray, List.getElem_cons_succ, List.getElem_cons_zero, List.setIfInBounds_toArray, List.set_cons_zero, List.set_cons_succ]
            refine wpAnyH_take (i := 17) (v := ?_) rfl (by kernel_rfl) (by kernel_rfl) (by kernel_rfl) (fun _ _ _ h => h) (Or.inl ⟨by kernel_rfl, ?_⟩) (by first | assumption | trivial) ?_
            rotate_left
            · intro w hSw
              try dsimp only at hSw
              first | (go_simp; done) | (go_simp; with_reducible rfl)
            try simp only [Act.put, List.getElem_toArray, List.getElem_cons_succ, List.getElem_cons_zero, List.setIfInBounds_toArray, List.set_cons_zero, List.set_cons_succ]
            refine wpAnyH_done (by kernel_rfl) ?_ _
            go_wp2_with fail
            go_meet
            case rel => exact ⟨g13, g14, pv, nv, cv, pw, nw, cw, rfl, rfl, rfl, HA13_7.out, HA14_7.out, HRV_7.out, HRW_7.out, HLV.out, HLW.out, HB7.out⟩
      · skip
        go_simp
        have hb := oneB q1 (.cells #[.int .i64 0, .slice none 0 0, .slice none 0 0] 26)
        have HB2 := Lib.hid (HB1.out.trans (hb.mono HB1.out.size))
        have HA13_2 := Lib.hid (Blk.new q1 #[.int .i64 0, .slice none 0 0, .slice none 0 0] 26)
        have HG13 : Hid (WB.heap.size ≤ q1.heap.size) := HB1.out.size
        have HR3_2 := Lib.hid (HR3_1.out.kept hb)
        clear hb
        generalize q1.alloc (.cells #[.int .i64 0, .slice none 0 0, .slice none 0 0] 26) = q2 at *
        generalize q1.heap.size = g13 at *
        refine hK.out _ _ (HS.out q2 HB2.out) (fun hS => ?_)
        clear hK K
        try simp only [Act.put, List.getElem_toArray, List.getElem_cons_succ, List.getElem_cons_zero, List.setIfInBounds_toArray, List.set_cons_zero, List.set_cons_succ]
        refine wpAnyH_ready (rs := [7, 14]) (by kernel_rfl) (by simp) ?_
        refine AllReadyH.cons rfl (fun K hK => ?_) (AllReadyH.cons rfl (fun K hK => ?_) AllReadyH.nil)
        · skip
          go_simp
          go_at_call 20
          refine (HKEEPY.out q2 HB2.out).mono ?_
          rintro y q3 ⟨vv7, rfl, ho7, hb⟩
          have HB3 := Lib.hid (HB2.out.trans (hb.mono HB2.out.size))
          obtain ⟨pk7, ck7, hv7⟩ := ho7.form
          generalize hk7 : (keepL cur Y).length = nk7 at hv7
          subst hv7
          have HR7_3 := Lib.hid ho7.row
          have HR3_3 := Lib.hid (HR3_2.out.kept hb)
          have HA13_3 := Lib.hid (HA13_2.out.below hb HA13_2.out.lt)
          clear hb ho7 hk7
          try go_wp2_with fail
          refine hK.out _ _ (HS.out q3 HB3.out) (fun hS => ?_)
          clear hK K
          try simp only [Act.put, List.getElem_toArray, List.getElem_cons_succ, List.getElem_cons_zero, List.setIfInBounds_toArray, List.set_cons_zero, List.set_cons_succ]
          refine wpAnyH_ready (rs := [8, 14]) (by kernel_rfl) (by simp) ?_
          refine AllReadyH.cons rfl (fun K hK => ?_) (AllReadyH.cons rfl (fun K hK => ?_) AllReadyH.nil)
          · skip
            go_simp
            go_at_call 9
            refine (HTW2.out q3 _ _ HR3_3.out HR7_3.out).mono ?_
            rintro y q4 ⟨pv, nv, cv, pw, nw, cw, rfl, hrv, hlv, hrw, hlw, hb, hov, how⟩
            have HB4 := Lib.hid (HB3.out.trans (hb.mono HB3.out.size))
            have HR3_4 := Lib.hid (HR3_3.out.kept hb)
            have HA13_4 := Lib.hid (HA13_3.out.below hb HA13_3.out.lt)
            have HR7_4 := Lib.hid (HR7_3.out.kept hb)
            have HRV_4 := Lib.hid hrv
            have HRW_4 := Lib.hid hrw
            have HLV := Lib.hid hlv
            have HLW := Lib.hid hlw
            have HNV13 : Hid (NeB (.slice pv nv cv) (keepL cur X) g13) := .inr (fun k hk => by have := hov k hk; have := HA13_3.out.lt; omega)
            have HNW13 : Hid (NeB (.slice pw nw cw) (keepL cur Y) g13) := .inr (fun k hk => by have := how k hk; have := HA13_3.out.lt; omega)
            clear hrv hlv hrw hlw hb hov how
            try go_wp2_with fail
            refine hK.out _ _ (HS.out q4 HB4.out) (fun hS => ?_)
            clear hK K
            try simp only [Act.put, List.getElem_toArray, List.getElem_cons_succ, List.getElem_cons_zero, List.setIfInBounds_toArray, List.set_cons_zero, List.set_cons_succ]
            refine wpAnyH_take (i := 9) (v := ?_) rfl (by kernel_rfl) (by kernel_rfl) (by kernel_rfl) (fun _ _ _ h => h) (Or.inl ⟨by kernel_rfl, ?_⟩) (by first | assumption | trivial) ?_
            rotate_left
            · intro w hSw
              try dsimp only at hSw
              first | (go_simp; done) | (go_simp; with_reducible rfl)
            try simp only [Act.put, List.getElem_toArray, List.getElem_cons_succ, List.getElem_cons_zero, List.setIfInBounds_toArray, List.set_cons_zero, List.set_cons_succ]
            refine wpAnyH_take (i := 10) (v := ?_) rfl (by kernel_rfl) (by kernel_rfl) (by kernel_rfl) (fun _ _ _ h => h) (Or.inl ⟨by kernel_rfl, ?_⟩) (by first | assumption | trivial) ?_
            rotate_left
            · intro w hSw
              try dsimp only at hSw
              first | (go_simp; done) | (go_simp; with_reducible rfl)
            try simp only [Act.put, List.getElem_toArray, List.getElem_cons_succ, List.getElem_cons_zero, List.setIfInBounds_toArray, List.set_cons_zero, List.set_cons_succ]
            refine wpAnyH_take (i := 11) (v := ?_) rfl (by kernel_rfl) (by kernel_rfl) (by kernel_rfl) (fun _ _ _ h => h) (Or.inl ⟨by kernel_rfl, ?_⟩) (by first | assumption | trivial) ?_
            rotate_left
            · intro w hSw
              try dsimp only at hSw
              first | (go_simp; done) | (go_simp; with_reducible rfl)
            try simp only [Act.put, List.getElem_toArray, List.getElem_cons_succ, List.getElem_cons_zero, List.setIfInBounds_toArray, List.set_cons_zero, List.set_cons_succ]
            refine wpAnyH_take (i := 12) (v := ?_) rfl (by kernel_rfl) (by kernel_rfl) (by kernel_rfl) (fun _ _ _ h => h) (Or.inl ⟨by kernel_rfl, ?_⟩) (by first | assumption | trivial) ?_
            rotate_left
            · intro w hSw
              try dsimp only at hSw
              first | (go_simp; done) | (go_simp; with_reducible rfl)
            try simp only [Act.put, List.getElem_toArray, List.getElem_cons_succ, List.getElem_cons_zero, List.setIfInBounds_toArray, List.set_cons_zero, List.set_cons_succ]
            refine wpAnyH_ready (rs := [14]) (by kernel_rfl) (by simp) ?_
            refine AllReadyH.cons rfl (fun K hK => ?_) AllReadyH.nil
            go_simp
            have hb := oneB q4 (.cells #[.int .i64 0, .slice none 0 0, .slice none 0 0] 26)
            have HB5 := Lib.hid (HB4.out.trans (hb.mono HB4.out.size))
            have HA14_5 := Lib.hid (Blk.new q4 #[.int .i64 0, .slice none 0 0, .slice none 0 0] 26)
            have HG14 : Hid (WB.heap.size ≤ q4.heap.size) := HB4.out.size
            have HR3_5 := Lib.hid (HR3_4.out.kept hb)
            have HA13_5 := Lib.hid (HA13_4.out.below hb HA13_4.out.lt)
            have HR7_5 := Lib.hid (HR7_4.out.kept hb)
            have HRV_5 := Lib.hid (HRV_4.out.kept hb)
            have HRW_5 := Lib.hid (HRW_4.out.kept hb)
            have HNE : Hid (g13 < q4.heap.size) := HA13_4.out.lt
            have HNV14 := Lib.hid HRV_4.out.ne_new
            have HNW14 := Lib.hid HRW_4.out.ne_new
            clear hb
            generalize q4.alloc (.cells #[.int .i64 0, .slice none 0 0, .slice none 0 0] 26) = q5 at *
            generalize q4.heap.size = g14 at *
            refine hK.out _ _ (HS.out q5 HB5.out) (fun hS => ?_)
            clear hK K
            try simp only [Act.put, List.getElem_toArray, List.getElem_cons_succ, List.getElem_cons_zero, List.setIfInBounds_toArray, List.set_cons_zero, List.set_cons_succ]
            refine wpAnyH_ready (rs := [15]) (by kernel_rfl) (by simp) ?_
            refine AllReadyH.cons rfl (fun K hK => ?_) AllReadyH.nil
            have z0 : q5.cell? ⟨g13, 0, none⟩ = some (.int .i64 0) := HA13_5.out.cell 0
            have z1 : q5.cell? ⟨g13, 1, none⟩ = some (.slice none 0 0) := HA13_5.out.cell 1
            have z2 : q5.cell? ⟨g13, 2, none⟩ = some (.slice none 0 0) := HA13_5.out.cell 2
            have f0 := HA13_5.out.free 0
            have f1 := HA13_5.out.free 1
            have f2 := HA13_5.out.free 2
            have HA13_6 := Lib.hid (st3_blk HA13_5.out rfl (.int .i64 0) (.slice pv nv cv) (.slice none 0 0))
            have HA14_6 := Lib.hid (blk_st3 (g := g13) HA14_5.out (Nat.ne_of_gt HNE.out) (.int .i64 0) (.slice pv nv cv) (.slice none 0 0))
            have HRV_6 := Lib.hid (row_st3N HRV_5.out HNV13.out (.int .i64 0) (.slice pv nv cv) (.slice none 0 0))
            have HRW_6 := Lib.hid (row_st3N HRW_5.out HNW13.out (.int .i64 0) (.slice pv nv cv) (.slice none 0 0))
            have HB6 := Lib.hid (st3_below (g := g13) HB5.out HG13.out (.int .i64 0) (.slice pv nv cv) (.slice none 0 0))
            unfold st3 at HA13_6 HA14_6 HRV_6 HRW_6 HB6
            go_simp
            generalize (((q5.setCell ⟨g13, 0, none⟩ (.int .i64 0)).setCell ⟨g13, 1, none⟩ (.slice pv nv cv)).setCell ⟨g13, 2, none⟩ (.slice none 0 0)) = q6 at *
            clear z0 z1 z2 f0 f1 f2
            refine hK.out _ _ (HS.out q6 HB6.out) (fun hS => ?_)
            clear hK K
            try simp only [Act.put, List.getElem_toArray, List.getElem_cons_succ, List.getElem_cons_zero, List.setIfInBounds_toArray, List.set_cons_zero, List.set_cons_succ]
            refine wpAnyH_ready (rs := [16]) (by kernel_rfl) (by simp) ?_
            refine AllReadyH.cons rfl (fun K hK => ?_) AllReadyH.nil
            have z0 : q6.cell? ⟨g14, 0, none⟩ = some (.int .i64 0) := HA14_6.out.cell 0
            have z1 : q6.cell? ⟨g14, 1, none⟩ = some (.slice none 0 0) := HA14_6.out.cell 1
            have z2 : q6.cell? ⟨g14, 2, none⟩ = some (.slice none 0 0) := HA14_6.out.cell 2
            have f0 := HA14_6.out.free 0
            have f1 := HA14_6.out.free 1
            have f2 := HA14_6.out.free 2
            have HA14_7 := Lib.hid (st3_blk HA14_6.out rfl (.int .i64 1) (.slice pw nw cw) (.slice none 0 0))
            have HA13_7 := Lib.hid (blk_st3 (g := g14) HA13_6.out (Nat.ne_of_lt HNE.out) (.int .i64 1) (.slice pw nw cw) (.slice none 0 0))
            have HRV_7 := Lib.hid (row_st3N HRV_6.out HNV14.out (.int .i64 1) (.slice pw nw cw) (.slice none 0 0))
            have HRW_7 := Lib.hid (row_st3N HRW_6.out HNW14.out (.int .i64 1) (.slice pw nw cw) (.slice none 0 0))
            have HB7 := Lib.hid (st3_below (g := g14) HB6.out HG14.out (.int .i64 1) (.slice pw nw cw) (.slice none 0 0))
            unfold st3 at HA13_7 HA14_7 HRV_7 HRW_7 HB7
            go_simp
            generalize (((q6.setCell ⟨g14, 0, none⟩ (.int .i64 1)).setCell ⟨g14, 1, none⟩ (.slice pw nw cw)).setCell ⟨g14, 2, none⟩ (.slice none 0 0)) = q7 at *
            clear z0 z1 z2 f0 f1 f2
            refine hK.out _ _ (HS.out q7 HB7.out) (fun hS => ?_)
            clear hK K
            try simp only [Act.put, List.getElem_toArray, List.getElem_cons_succ, List.getElem_cons_zero, List.setIfInBounds_toArray, List.set_cons_zero, List.set_cons_succ]
            refine wpAnyH_take (i := 17) (v := ?_) rfl (by kernel_rfl) (by kernel_rfl) (by kernel_rfl) (fun _ _ _ h => h) (Or.inl ⟨by kernel_rfl, ?_⟩) (by first | assumption | trivial) ?_
            rotate_left
            · intro w hSw
              try dsimp only at hSw
              first | (go_simp; done) | (go_simp; with_reducible rfl)
            try simp only [Act.put, List.getElem_toArray, List.getElem_cons_succ, List.getElem_cons_zero, List.setIfInBounds_toArray, List.set_cons_zero, List.set_cons_succ]
            refine wpAnyH_done (by kernel_rfl) ?_ _
            go_wp2_with fail
            go_meet
            case rel => exact ⟨g13, g14, pv, nv, cv, pw, nw, cw, rfl, rfl, rfl, HA13_7.out, HA14_7.out, HRV_7.out, HRW_7.out, HLV.out, HLW.out, HB7.out⟩
          · skip
            go_simp
            have hb := oneB q3 (.cells #[.int .i64 0, .slice none 0 0, .slice none 0 0] 26)
            have HB4 := Lib.hid (HB3.out.trans (hb.mono HB3.out.size))
            have HA14_4 := Lib.hid (Blk.new q3 #[.int .i64 0, .slice none 0 0, .slice none 0 0] 26)
            have HG14 : Hid (WB.heap.size ≤ q3.heap.size) := HB3.out.size
            have HR3_4 := Lib.hid (HR3_3.out.kept hb)
            have HA13_4 := Lib.hid (HA13_3.out.below hb HA13_3.out.lt)
            have HR7_4 := Lib.hid (HR7_3.out.kept hb)
            have HNE : Hid (g13 < q3.heap.size) := HA13_3.out.lt
            clear hb
            generalize q3.alloc (.cells #[.int .i64 0, .slice none 0 0, .slice none 0 0] 26) = q4 at *
            generalize q3.heap.size = g14 at *
            refine hK.out _ _ (HS.out q4 HB4.out) (fun hS => ?_)
            clear hK K
            try simp only [Act.put, List.getElem_toArray, List.getElem_cons_succ, List.getElem_cons_zero, List.setIfInBounds_toArray, List.set_cons_zero, List.set_cons_succ]
            refine wpAnyH_ready (rs := [8]) (by kernel_rfl) (by simp) ?_
            refine AllReadyH.cons rfl (fun K hK => ?_) AllReadyH.nil
            go_simp
            go_at_call 9
            refine (HTW2.out q4 _ _ HR3_4.out HR7_4.out).mono ?_
            rintro y q5 ⟨pv, nv, cv, pw, nw, cw, rfl, hrv, hlv, hrw, hlw, hb, hov, how⟩
            have HB5 := Lib.hid (HB4.out.trans (hb.mono HB4.out.size))
            have HR3_5 := Lib.hid (HR3_4.out.kept hb)
            have HA13_5 := Lib.hid (HA13_4.out.below hb HA13_4.out.lt)
            have HR7_5 := Lib.hid (HR7_4.out.kept hb)
            have HA14_5 := Lib.hid (HA14_4.out.below hb HA14_4.out.lt)
            have HRV_5 := Lib.hid hrv
            have HRW_5 := Lib.hid hrw
            have HLV := Lib.hid hlv
            have HLW := Lib.hid hlw
            have HNV13 : Hid (NeB (.slice pv nv cv) (keepL cur X) g13) := .inr (fun k hk => by have := hov k hk; have := HA13_4.out.lt; omega)
            have HNW13 : Hid (NeB (.slice pw nw cw) (keepL cur Y) g13) := .inr (fun k hk => by have := how k hk; have := HA13_4.out.lt; omega)
            have HNV14 : Hid (NeB (.slice pv nv cv) (keepL cur X) g14) := .inr (fun k hk => by have := hov k hk; have := HA14_4.out.lt; omega)
            have HNW14 : Hid (NeB (.slice pw nw cw) (keepL cur Y) g14) := .inr (fun k hk => by have := how k hk; have := HA14_4.out.lt; omega)
            clear hrv hlv hrw hlw hb hov how
            try go_wp2_with fail
            refine hK.out _ _ (HS.out q5 HB5.out) (fun hS => ?_)
            clear hK K
            try simp only [Act.put, List.getElem_toArray, List.getElem_cons_succ, List.getElem_cons_zero, List.setIfInBounds_toArray, List.set_cons_zero, List.set_cons_succ]
            refine wpAnyH_take (i := 9) (v := ?_) rfl (by kernel_rfl) (by kernel_rfl) (by kernel_rfl) (fun _ _ _ h => h) (Or.inl ⟨by kernel_rfl, ?_⟩) (by first | assumption | trivial) ?_
            rotate_left
            · intro w hSw
              try dsimp only at hSw
              first | (go_simp; done) | (go_simp; with_reducible rfl)
            try simp only [Act.put, List.getElem_toArray, List.getElem_cons_succ, List.getElem_cons_zero, List.setIfInBounds_toArray, List.set_cons_zero, List.set_cons_succ]
            refine wpAnyH_take (i := 10) (v := ?_) rfl (by kernel_rfl) (by kernel_rfl) (by kernel_rfl) (fun _ _ _ h => h) (Or.inl ⟨by kernel_rfl, ?_⟩) (by first | assumption | trivial) ?_
            rotate_left
            · intro w hSw
              try dsimp only at hSw
              first | (go_simp; done) | (go_simp; with_reducible rfl)
            try simp only [Act.put, List.getElem_toArray, List.getElem_cons_succ, List.getElem_cons_zero, List.setIfInBounds_toArray, List.set_cons_zero, List.set_cons_succ]
            refine wpAnyH_take (i := 11) (v := ?_) rfl (by kernel_rfl) (by kernel_rfl) (by kernel_rfl) (fun _ _ _ h => h) (Or.inl ⟨by kernel_rfl, ?_⟩) (by first | assumption | trivial) ?_
            rotate_left
            · intro w hSw
              try dsimp only at hSw
              first | (go_simp; done) | (go_simp; with_reducible rfl)
            try simp only [Act.put, List.getElem_toArray, List.getElem_cons_succ, List.getElem_cons_zero, List.setIfInBounds_toArray, List.set_cons_zero, List.set_cons_succ]
            refine wpAnyH_take (i := 12) (v := ?_) rfl (by kernel_rfl) (by kernel_rfl) (by kernel_rfl) (fun _ _ _ h => h) (Or.inl ⟨by kernel_rfl, ?_⟩) (by first | assumption | trivial) ?_
            rotate_left
            · intro w hSw
              try dsimp only at hSw
              first | (go_simp; done) | (go_simp; with_reducible rfl)
            try simp only [Act.put, List.getElem_toArray, List.getElem_cons_succ, List.getElem_cons_zero, List.setIfInBounds_toArray, List.set_cons_zero, List.set_cons_succ]
            refine wpAnyH_ready (rs := [15]) (by kernel_rfl) (by simp) ?_
            refine AllReadyH.cons rfl (fun K hK => ?_) AllReadyH.nil
            have z0 : q5.cell? ⟨g13, 0, none⟩ = some (.int .i64 0) := HA13_5.out.cell 0
            have z1 : q5.cell? ⟨g13, 1, none⟩ = some (.slice none 0 0) := HA13_5.out.cell 1
            have z2 : q5.cell? ⟨g13, 2, none⟩ = some (.slice none 0 0) := HA13_5.out.cell 2
            have f0 := HA13_5.out.free 0
            have f1 := HA13_5.out.free 1
            have f2 := HA13_5.out.free 2
            have HA13_6 := Lib.hid (st3_blk HA13_5.out rfl (.int .i64 0) (.slice pv nv cv) (.slice none 0 0))
            have HA14_6 := Lib.hid (blk_st3 (g := g13) HA14_5.out (Nat.ne_of_gt HNE.out) (.int .i64 0) (.slice pv nv cv) (.slice none 0 0))
            have HRV_6 := Lib.hid (row_st3N HRV_5.out HNV13.out (.int .i64 0) (.slice pv nv cv) (.slice none 0 0))
            have HRW_6 := Lib.hid (row_st3N HRW_5.out HNW13.out (.int .i64 0) (.slice pv nv cv) (.slice none 0 0))
            have HB6 := Lib.hid (st3_below (g := g13) HB5.out HG13.out (.int .i64 0) (.slice pv nv cv) (.slice none 0 0))
            unfold st3 at HA13_6 HA14_6 HRV_6 HRW_6 HB6
            go_simp
            generalize (((q5.setCell ⟨g13, 0, none⟩ (.int .i64 0)).setCell ⟨g13, 1, none⟩ (.slice pv nv cv)).setCell ⟨g13, 2, none⟩ (.slice none 0 0)) = q6 at *
            clear z0 z1 z2 f0 f1 f2
            refine hK.out _ _ (HS.out q6 HB6.out) (fun hS => ?_)
            clear hK K
            try simp only [Act.put, List.getElem_toArray, List.getElem_cons_succ, List.getElem_cons_zero, List.setIfInBounds_toArray, List.set_cons_zero, List.set_cons_succ]
            refine wpAnyH_ready (rs := [16]) (by kernel_rfl) (by simp) ?_
            refine AllReadyH.cons rfl (fun K hK => ?_) AllReadyH.nil
            have z0 : q6.cell? ⟨g14, 0, none⟩ = some (.int .i64 0) := HA14_6.out.cell 0
            have z1 : q6.cell? ⟨g14, 1, none⟩ = some (.slice none 0 0) := HA14_6.out.cell 1
            have z2 : q6.cell? ⟨g14, 2, none⟩ = some (.slice none 0 0) := HA14_6.out.cell 2
            have f0 := HA14_6.out.free 0
            have f1 := HA14_6.out.free 1
            have f2 := HA14_6.out.free 2
            have HA14_7 := Lib.hid (st3_blk HA14_6.out rfl (.int .i64 1) (.slice pw nw cw) (.slice none 0 0))
            have HA13_7 := Lib.hid (blk_st3 (g := g14) HA13_6.out (Nat.ne_of_lt HNE.out) (.int .i64 1) (.slice pw nw cw) (.slice none 0 0))
            have HRV_7 := Lib.hid (row_st3N HRV_6.out HNV14.out (.int .i64 1) (.slice pw nw cw) (.slice none 0 0))
            have HRW_7 := Lib.hid (row_st3N HRW_6.out HNW14.out (.int .i64 1) (.slice pw nw cw) (.slice none 0 0))
            have HB7 := Lib.hid (st3_below (g := g14) HB6.out HG14.out (.int .i64 1) (.slice pw nw cw) (.slice none 0 0))
            unfold st3 at HA13_7 HA14_7 HRV_7 HRW_7 HB7
            go_simp
            generalize (((q6.setCell ⟨g14, 0, none⟩ (.int .i64 1)).setCell ⟨g14, 1, none⟩ (.slice pw nw cw)).setCell ⟨g14, 2, none⟩ (.slice none 0 0)) = q7 at *
            clear z0 z1 z2 f0 f1 f2
            refine hK.out _ _ (HS.out q7 HB7.out) (fun hS => ?_)
            clear hK K
            try simp only [Act.put, List.getElem_toArray, List.getElem_cons_succ, List.getElem_cons_zero, List.setIfInBounds_toArray, List.set_cons_zero, List.set_cons_succ]
            refine wpAnyH_take (i := 17) (v := ?_) rfl (by kernel_rfl) (by kernel_rfl) (by kernel_rfl) (fun _ _ _ h => h) (Or.inl ⟨by kernel_rfl, ?_⟩) (by first | assumption | trivial) ?_
            rotate_left
            · intro w hSw
              try dsimp only at hSw
              first | (go_simp; done) | (go_simp; with_reducible rfl)
            try simp only [Act.put, List.getElem_toArray, List.getElem_cons_succ, List.getElem_cons_zero, List.setIfInBounds_toArray, List.set_cons_zero, List.set_cons_succ]
            refine wpAnyH_done (by kernel_rfl) ?_ _
            go_wp2_with fail
            go_meet
            case rel => exact ⟨g13, g14, pv, nv, cv, pw, nw, cw, rfl, rfl, rfl, HA13_7.out, HA14_7.out, HRV_7.out, HRW_7.out, HLV.out, HLW.out, HB7.out⟩
        · skip
          go_simp
          have hb := oneB q2 (.cells #[.int .i64 0, .slice none 0 0, .slice none 0 0] 26)
          have HB3 := Lib.hid (HB2.out.trans (hb.mono HB2.out.size))
          have HA14_3 := Lib.hid (Blk.new q2 #[.int .i64 0, .slice none 0 0, .slice none 0 0] 26)
          have HG14 : Hid (WB.heap.size ≤ q2.heap.size) := HB2.out.size
          have HR3_3 := Lib.hid (HR3_2.out.kept hb)
          have HA13_3 := Lib.hid (HA13_2.out.below hb HA13_2.out.lt)
          have HNE : Hid (g13 < q2.heap.size) := HA13_2.out.lt
          clear hb
          generalize q2.alloc (.cells #[.int .i64 0, .slice none 0 0, .slice none 0 0] 26) = q3 at *
          generalize q2.heap.size = g14 at *
          refine hK.out _ _ (HS.out q3 HB3.out) (fun hS => ?_)
          clear hK K
          try simp only [Act.put, List.getElem_toArray, List.getElem_cons_succ, List.getElem_cons_zero, List.setIfInBounds_toArray, List.set_cons_zero, List.set_cons_succ]
          refine wpAnyH_ready (rs := [7]) (by kernel_rfl) (by simp) ?_
          refine AllReadyH.cons rfl (fun K hK => ?_) AllReadyH.nil
          go_simp
          go_at_call 20
          refine (HKEEPY.out q3 HB3.out).mono ?_
          rintro y q4 ⟨vv7, rfl, ho7, hb⟩
          have HB4 := Lib.hid (HB3.out.trans (hb.mono HB3.out.size))
          obtain ⟨pk7, ck7, hv7⟩ := ho7.form
          generalize hk7 : (keepL cur Y).length = nk7 at hv7
          subst hv7
          have HR7_4 := Lib.hid ho7.row
          have HR3_4 := Lib.hid (HR3_3.out.kept hb)
          have HA13_4 := Lib.hid (HA13_3.out.below hb HA13_3.out.lt)
          have HA14_4 := Lib.hid (HA14_3.out.below hb HA14_3.out.lt)
          clear hb ho7 hk7
          try go_wp2_with fail
          refine hK.out _ _ (HS.out q4 HB4.out) (fun hS => ?_)
          clear hK K
          try simp only [Act.put, List.getElem_toArray, List.getElem_cons_succ, List.getElem_cons_zero, List.setIfInBounds_toArray, List.set_cons_zero, List.set_cons_succ]
          refine wpAnyH_ready (rs := [8]) (by kernel_rfl) (by simp) ?_
          refine AllReadyH.cons rfl (fun K hK => ?_) AllReadyH.nil
          go_simp
          go_at_call 9
          refine (HTW2.out q4 _ _ HR3_4.out HR7_4.out).mono ?_
          rintro y q5 ⟨pv, nv, cv, pw, nw, cw, rfl, hrv, hlv, hrw, hlw, hb, hov, how⟩
          have HB5 := Lib.hid (HB4.out.trans (hb.mono HB4.out.size))
          have HR3_5 := Lib.hid (HR3_4.out.kept hb)
          have HA13_5 := Lib.hid (HA13_4.out.below hb HA13_4.out.lt)
          have HA14_5 := Lib.hid (HA14_4.out.below hb HA14_4.out.lt)
          have HR7_5 := Lib.hid (HR7_4.out.kept hb)
          have HRV_5 := Lib.hid hrv
          have HRW_5 := Lib.hid hrw
          have HLV := Lib.hid hlv
          have HLW := Lib.hid hlw
          have HNV13 : Hid (NeB (.slice pv nv cv) (keepL cur X) g13) := .inr (fun k hk => by have := hov k hk; have := HA13_4.out.lt; omega)
          have HNW13 : Hid (NeB (.slice pw nw cw) (keepL cur Y) g13) := .inr (fun k hk => by have := how k hk; have := HA13_4.out.lt; omega)
          have HNV14 : Hid (NeB (.slice pv nv cv) (keepL cur X) g14) := .inr (fun k hk => by have := hov k hk; have := HA14_4.out.lt; omega)
          have HNW14 : Hid (NeB (.slice pw nw cw) (keepL cur Y) g14) := .inr (fun k hk => by have := how k hk; have := HA14_4.out.lt; omega)
          clear hrv hlv hrw hlw hb hov how
          try go_wp2_with fail
          refine hK.out _ _ (HS.out q5 HB5.out) (fun hS => ?_)
          clear hK K
          try simp only [Act.put, List.getElem_toArray, List.getElem_cons_succ, List.getElem_cons_zero, List.setIfInBounds_toArray, List.set_cons_zero, List.set_cons_succ]
          refine wpAnyH_take (i := 9) (v := ?_) rfl (by kernel_rfl) (by kernel_rfl) (by kernel_rfl) (fun _ _ _ h => h) (Or.inl ⟨by kernel_rfl, ?_⟩) (by first | assumption | trivial) ?_
          rotate_left
          · intro w hSw
            try dsimp only at hSw
            first | (go_simp; done) | (go_simp; with_reducible rfl)
          try simp only [Act.put, List.getElem_toArray, List.getElem_cons_succ, List.getElem_cons_zero, List.setIfInBounds_toArray, List.set_cons_zero, List.set_cons_succ]
          refine wpAnyH_take (i := 10) (v := ?_) rfl (by kernel_rfl) (by kernel_rfl) (by kernel_rfl) (fun _ _ _ h => h) (Or.inl ⟨by kernel_rfl, ?_⟩) (by first | assumption | trivial) ?_
          rotate_left
          · intro w hSw
            try dsimp only at hSw
            first | (go_simp; done) | (go_simp; with_reducible rfl)
          try simp only [Act.put, List.getElem_toArray, List.getElem_cons_succ, List.getElem_cons_zero, List.setIfInBounds_toArray, List.set_cons_zero, List.set_cons_succ]
          refine wpAnyH_take (i := 11) (v := ?_) rfl (by kernel_rfl) (by kernel_rfl) (by kernel_rfl) (fun _ _ _ h => h) (Or.inl ⟨by kernel_rfl, ?_⟩) (by first | assumption | trivial) ?_
          rotate_left
          · intro w hSw
            try dsimp only at hSw
            first | (go_simp; done) | (go_simp; with_reducible rfl)
          try simp only [Act.put, List.getElem_toArray, List.getElem_cons_succ, List.getElem_cons_zero, List.setIfInBounds_toArray, List.set_cons_zero, List.set_cons_succ]
          refine wpAnyH_take (i := 12) (v := ?_) rfl (by kernel_rfl) (by kernel_rfl) (by kernel_rfl) (fun _ _ _ h => h) (Or.inl ⟨by kernel_rfl, ?_⟩) (by first | assumption | trivial) ?_
          rotate_left
          · intro w hSw
            try dsimp only at hSw
            first | (go_simp; done) | (go_simp; with_reducible rfl)
          try simp only [Act.put, List.getElem_toArray, List.getElem_cons_succ, List.getElem_cons_zero, List.setIfInBounds_toArray, List.set_cons_zero, List.set_cons_succ]
          refine wpAnyH_ready (rs := [15]) (by kernel_rfl) (by simp) ?_
          refine AllReadyH.cons rfl (fun K hK => ?_) AllReadyH.nil
          have z0 : q5.cell? ⟨g13, 0, none⟩ = some (.int .i64 0) := HA13_5.out.cell 0
          have z1 : q5.cell? ⟨g13, 1, none⟩ = some (.slice none 0 0) := HA13_5.out.cell 1
          have z2 : q5.cell? ⟨g13, 2, none⟩ = some (.slice none 0 0) := HA13_5.out.cell 2
          have f0 := HA13_5.out.free 0
          have f1 := HA13_5.out.free 1
          have f2 := HA13_5.out.free 2
          have HA13_6 := Lib.hid (st3_blk HA13_5.out rfl (.int .i64 0) (.slice pv nv cv) (.slice none 0 0))
          have HA14_6 := Lib.hid (blk_st3 (g := g13) HA14_5.out (Nat.ne_of_gt HNE.out) (.int .i64 0) (.slice pv nv cv) (.slice none 0 0))
          have HRV_6 := Lib.hid (row_st3N HRV_5.out HNV13.out (.int .i64 0) (.slice pv nv cv) (.slice none 0 0))
          have HRW_6 := Lib.hid (row_st3N HRW_5.out HNW13.out (.int .i64 0) (.slice pv nv cv) (.slice none 0 0))
          have HB6 := Lib.hid (st3_below (g := g13) HB5.out HG13.out (.int .i64 0) (.slice pv nv cv) (.slice none 0 0))
          unfold st3 at HA13_6 HA14_6 HRV_6 HRW_6 HB6
          go_simp
          generalize (((q5.setCell ⟨g13, 0, none⟩ (.int .i64 0)).setCell ⟨g13, 1, none⟩ (.slice pv nv cv)).setCell ⟨g13, 2, none⟩ (.slice none 0 0)) = q6 at *
          clear z0 z1 z2 f0 f1 f2
          refine hK.out _ _ (HS.out q6 HB6.out) (fun hS => ?_)
          clear hK K
          try simp only [Act.put, List.getElem_toArray, List.getElem_cons_succ, List.getElem_cons_zero, List.setIfInBounds_toArray, List.set_cons_zero, List.set_cons_succ]
          refine wpAnyH_ready (rs := [16]) (by kernel_rfl) (by simp) ?_
          refine AllReadyH.cons rfl (fun K hK => ?_) AllReadyH.nil
          have z0 : q6.cell? ⟨g14, 0, none⟩ = some (.int .i64 0) := HA14_6.out.cell 0
          have z1 : q6.cell? ⟨g14, 1, none⟩ = some (.slice none 0 0) := HA14_6.out.cell 1
          have z2 : q6.cell? ⟨g14, 2, none⟩ = some (.slice none 0 0) := HA14_6.out.cell 2
          have f0 := HA14_6.out.free 0
          have f1 := HA14_6.out.free 1
          have f2 := HA14_6.out.free 2
          have HA14_7 := Lib.hid (st3_blk HA14_6.out rfl (.int .i64 1) (.slice pw nw cw) (.slice none 0 0))
          have HA13_7 := Lib.hid (blk_st3 (g := g14) HA13_6.out (Nat.ne_of_lt HNE.out) (.int .i64 1) (.slice pw nw cw) (.slice none 0 0))
          have HRV_7 := Lib.hid (row_st3N HRV_6.out HNV14.out (.int .i64 1) (.slice pw nw cw) (.slice none 0 0))
          have HRW_7 := Lib.hid (row_st3N HRW_6.out HNW14.out (.int .i64 1) (.slice pw nw cw) (.slice none 0 0))
          have HB7 := Lib.hid (st3_below (g := g14) HB6.out HG14.out (.int .i64 1) (.slice pw nw cw) (.slice none 0 0))
          unfold st3 at HA13_7 HA14_7 HRV_7 HRW_7 HB7
          go_simp
          generalize (((q6.setCell ⟨g14, 0, none⟩ (.int .i64 1)).setCell ⟨g14, 1, none⟩ (.slice pw nw cw)).setCell ⟨g14, 2, none⟩ (.slice none 0 0)) = q7 at *
          clear z0 z1 z2 f0 f1 f2
          refine hK.out _ _ (HS.out q7 HB7.out) (fun hS => ?_)
          clear hK K
          try simp only [Act.put, List.getElem_toArray, List.getElem_cons_succ, List.getElem_cons_zero, List.setIfInBounds_toArray, List.set_cons_zero, List.set_cons_succ]
          refine wpAnyH_take (i := 17) (v := ?_) rfl (by kernel_rfl) (by kernel_rfl) (by kernel_rfl) (fun _ _ _ h => h) (Or.inl ⟨by kernel_rfl, ?_⟩) (by first | assumption | trivial) ?_
          rotate_left
          · intro w hSw
            try dsimp only at hSw
            first | (go_simp; done) | (go_simp; with_reducible rfl)
          try simp only [Act.put, List.getElem_toArray, List.getElem_cons_succ, List.getElem_cons_zero, List.setIfInBounds_toArray, List.set_cons_zero, List.set_cons_succ]
          refine wpAnyH_done (by kernel_rfl) ?_ _
          go_wp2_with fail
          go_meet
          case rel => exact ⟨g13, g14, pv, nv, cv, pw, nw, cw, rfl, rfl, rfl, HA13_7.out, HA14_7.out, HRV_7.out, HRW_7.out, HLV.out, HLW.out, HB7.out⟩
      · skip
        go_simp
        have hb := oneB q1 (.cells #[.int .i64 0, .slice none 0 0, .slice none 0 0] 26)
        have HB2 := Lib.hid (HB1.out.trans (hb.mono HB1.out.size))
        have HA14_2 := Lib.hid (Blk.new q1 #[.int .i64 0, .slice none 0 0, .slice none 0 0] 26)
        have HG14 : Hid (WB.heap.size ≤ q1.heap.size) := HB1.out.size
        have HR3_2 := Lib.hid (HR3_1.out.kept hb)
        clear hb
        generalize q1.alloc (.cells #[.int .i64 0, .slice none 0 0, .slice none 0 0] 26) = q2 at *
        generalize q1.heap.size = g14 at *
        refine hK.out _ _ (HS.out q2 HB2.out) (fun hS => ?_)
        clear hK K
        try simp only [Act.put, List.getElem_toArray, List.getElem_cons_succ, List.getElem_cons_zero, List.setIfInBounds_toArray, List.set_cons_zero, List.set_cons_succ]
        refine wpAnyH_ready (rs := [7, 13]) (by kernel_rfl) (by simp) ?_
        refine AllReadyH.cons rfl (fun K hK => ?_) (AllReadyH.cons rfl (fun K hK => ?_) AllReadyH.nil)
        · skip
          go_simp
          go_at_call 20
          refine (HKEEPY.out q2 HB2.out).mono ?_
          rintro y q3 ⟨vv7, rfl, ho7, hb⟩
          have HB3 := Lib.hid (HB2.out.trans (hb.mono HB2.out.size))
          obtain ⟨pk7, ck7, hv7⟩ := ho7.form
          generalize hk7 : (keepL cur Y).length = nk7 at hv7
          subst hv7
          have HR7_3 := Lib.hid ho7.row
          have HR3_3 := Lib.hid (HR3_2.out.kept hb)
          have HA14_3 := Lib.hid (HA14_2.out.below hb HA14_2.out.lt)
          clear hb ho7 hk7
          try go_wp2_with fail
          refine hK.out _ _ (HS.out q3 HB3.out) (fun hS => ?_)
          clear hK K
          try simp only [Act.put, List.getElem_toArray, List.getElem_cons_succ, List.getElem_cons_zero, List.setIfInBounds_toArray, List.set_cons_zero, List.set_cons_succ]
          refine wpAnyH_ready (rs := [8, 13]) (by kernel_rfl) (by simp) ?_
          refine AllReadyH.cons rfl (fun K hK => ?_) (AllReadyH.cons rfl (fun K hK => ?_) AllReadyH.nil)
          · skip
            go_simp
            go_at_call 9
            refine (HTW2.out q3 _ _ HR3_3.out HR7_3.out).mono ?_
            rintro y q4 ⟨pv, nv, cv, pw, nw, cw, rfl, hrv, hlv, hrw, hlw, hb, hov, how⟩
            have HB4 := Lib.hid (HB3.out.trans (hb.mono HB3.out.size))
            have HR3_4 := Lib.hid (HR3_3.out.kept hb)
            have HA14_4 := Lib.hid (HA14_3.out.below hb HA14_3.out.lt)
            have HR7_4 := Lib.hid (HR7_3.out.kept hb)
            have HRV_4 := Lib.hid hrv
            have HRW_4 := Lib.hid hrw
            have HLV := Lib.hid hlv
            have HLW := Lib.hid hlw
            have HNV14 : Hid (NeB (.slice pv nv cv) (keepL cur X) g14) := .inr (fun k hk => by have := hov k hk; have := HA14_3.out.lt; omega)
            have HNW14 : Hid (NeB (.slice pw nw cw) (keepL cur Y) g14) := .inr (fun k hk => by have := how k hk; have := HA14_3.out.lt; omega)
            clear hrv hlv hrw hlw hb hov how
            try go_wp2_with fail
            refine hK.out _ _ (HS.out q4 HB4.out) (fun hS => ?_)
            clear hK K
            try simp only [Act.put, List.getElem_toArray, List.getElem_cons_succ, List.getElem_cons_zero, List.setIfInBounds_toArray, List.set_cons_zero, List.set_cons_succ]
            refine wpAnyH_take (i := 9) (v := ?_) rfl (by kernel_rfl) (by kernel_rfl) (by kernel_rfl) (fun _ _ _ h => h) (Or.inl ⟨by kernel_rfl, ?_⟩) (by first | assumption | trivial) ?_
            rotate_left
            · intro w hSw
              try dsimp only at hSw
              first | (go_simp; done) | (go_simp; with_reducible rfl)
            try simp only [Act.put, List.getElem_toArray, List.getElem_cons_succ, List.getElem_cons_zero, List.setIfInBounds_toArray, List.set_cons_zero, List.set_cons_succ]
            refine wpAnyH_take (i := 10) (v := ?_) rfl (by kernel_rfl) (by kernel_rfl) (by kernel_rfl) (fun _ _ _ h => h) (Or.inl ⟨by kernel_rfl, ?_⟩) (by first | assumption | trivial) ?_
            rotate_left
            · intro w hSw
              try dsimp only at hSw
              first | (go_simp; done) | (go_simp; with_reducible rfl)
            try simp only [Act.put, List.getElem_toArray, List.getElem_cons_succ, List.getElem_cons_zero, List.setIfInBounds_toArray, List.set_cons_zero, List.set_cons_succ]
            refine wpAnyH_take (i := 11) (v := ?_) rfl (by kernel_rfl) (by kernel_rfl) (by kernel_rfl) (fun _ _ _ h => h) (Or.inl ⟨by kernel_rfl, ?_⟩) (by first | assumption | trivial) ?_
            rotate_left
            · intro w hSw
              try dsimp only at hSw
              first | (go_simp; done) | (go_simp; with_reducible rfl)
            try simp only [Act.put, List.getElem_toArray, List.getElem_cons_succ, List.getElem_cons_zero, List.setIfInBounds_toArray, List.set_cons_zero, List.set_cons_succ]
            refine wpAnyH_take (i := 12) (v := ?_) rfl (by kernel_rfl) (by kernel_rfl) (by kernel_rfl) (fun _ _ _ h => h) (Or.inl ⟨by kernel_rfl, ?_⟩) (by first | assumption | trivial) ?_
            rotate_left
            · intro w hSw
              try dsimp only at hSw
              first | (go_simp; done) | (go_simp; with_reducible rfl)
            try simp only [Act.put, List.getElem_toArray, List.getElem_cons_succ, List.getElem_cons_zero, List.setIfInBounds_toArray, List.set_cons_zero, List.set_cons_succ]
            refine wpAnyH_ready (rs := [13]) (by kernel_rfl) (by simp) ?_
            refine AllReadyH.cons rfl (fun K hK => ?_) AllReadyH.nil
            go_simp
            have hb := oneB q4 (.cells #[.int .i64 0, .slice none 0 0, .slice none 0 0] 26)
            have HB5 := Lib.hid (HB4.out.trans (hb.mono HB4.out.size))
            have HA13_5 := Lib.hid (Blk.new q4 #[.int .i64 0, .slice none 0 0, .slice none 0 0] 26)
            have HG13 : Hid (WB.heap.size ≤ q4.heap.size) := HB4.out.size
            have HR3_5 := Lib.hid (HR3_4.out.kept hb)
            have HA14_5 := Lib.hid (HA14_4.out.below hb HA14_4.out.lt)
            have HR7_5 := Lib.hid (HR7_4.out.kept hb)
            have HRV_5 := Lib.hid (HRV_4.out.kept hb)
            have HRW_5 := Lib.hid (HRW_4.out.kept hb)
            have HNE : Hid (g14 < q4.heap.size) := HA14_4.out.lt
            have HNV13 := Lib.hid HRV_4.out.ne_new
            have HNW13 := Lib.hid HRW_4.out.ne_new
            clear hb
            generalize q4.alloc (.cells #[.int .i64 0, .slice none 0 0, .slice none 0 0] 26) = q5 at *
            generalize q4.heap.size = g13 at *
            refine hK.out _ _ (HS.out q5 HB5.out) (fun hS => ?_)
            clear hK K
            try simp only [Act.put, List.getElem_toArray, List.getElem_cons_succ, List.getElem_cons_zero, List.setIfInBounds_toArray, List.set_cons_zero, List.set_cons_succ]
            refine wpAnyH_ready (rs := [15]) (by kernel_rfl) (by simp) ?_
            refine AllReadyH.cons rfl (fun K hK => ?_) AllReadyH.nil
            have z0 : q5.cell? ⟨g13, 0, none⟩ = some (.int .i64 0) := HA13_5.out.cell 0
            have z1 : q5.cell? ⟨g13, 1, none⟩ = some (.slice none 0 0) := HA13_5.out.cell 1
            have z2 : q5.cell? ⟨g13, 2, none⟩ = some (.slice none 0 0) := HA13_5.out.cell 2
            have f0 := HA13_5.out.free 0
            have f1 := HA13_5.out.free 1
            have f2 := HA13_5.out.free 2
            have HA13_6 := Lib.hid (st3_blk HA13_5.out rfl (.int .i64 0) (.slice pv nv cv) (.slice none 0 0))
            have HA14_6 := Lib.hid (blk_st3 (g := g13) HA14_5.out (Nat.ne_of_lt HNE.out) (.int .i64 0) (.slice pv nv cv) (.slice none 0 0))
            have HRV_6 := Lib.hid (row_st3N HRV_5.out HNV13.out (.int .i64 0) (.slice pv nv cv) (.slice none 0 0))
            have HRW_6 := Lib.hid (row_st3N HRW_5.out HNW13.out (.int .i64 0) (.slice pv nv cv) (.slice none 0 0))
            have HB6 := Lib.hid (st3_below (g := g13) HB5.out HG13.out (.int .i64 0) (.slice pv nv cv) (.slice none 0 0))
            unfold st3 at HA13_6 HA14_6 HRV_6 HRW_6 HB6
            go_simp
            generalize (((q5.setCell ⟨g13, 0, none⟩ (.int .i64 0)).setCell ⟨g13, 1, none⟩ (.slice pv nv cv)).setCell ⟨g13, 2, none⟩ (.slice none 0 0)) = q6 at *
            clear z0 z1 z2 f0 f1 f2
            refine hK.out _ _ (HS.out q6 HB6.out) (fun hS => ?_)
            clear hK K
            try simp only [Act.put, List.getElem_toArray, List.getElem_cons_succ, List.getElem_cons_zero, List.setIfInBounds_toArray, List.set_cons_zero, List.set_cons_succ]
            refine wpAnyH_ready (rs := [16]) (by kernel_rfl) (by simp) ?_
            refine AllReadyH.cons rfl (fun K hK => ?_) AllReadyH.nil
            have z0 : q6.cell? ⟨g14, 0, none⟩ = some (.int .i64 0) := HA14_6.out.cell 0
            have z1 : q6.cell? ⟨g14, 1, none⟩ = some (.slice none 0 0) := HA14_6.out.cell 1
            have z2 : q6.cell? ⟨g14, 2, none⟩ = some (.slice none 0 0) := HA14_6.out.cell 2
            have f0 := HA14_6.out.free 0
            have f1 := HA14_6.out.free 1
            have f2 := HA14_6.out.free 2
            have HA14_7 := Lib.hid (st3_blk HA14_6.out rfl (.int .i64 1) (.slice pw nw cw) (.slice none 0 0))
            have HA13_7 := Lib.hid (blk_st3 (g := g14) HA13_6.out (Nat.ne_of_gt HNE.out) (.int .i64 1) (.slice pw nw cw) (.slice none 0 0))
            have HRV_7 := Lib.hid (row_st3N HRV_6.out HNV14.out (.int .i64 1) (.slice pw nw cw) (.slice none 0 0))
            have HRW_7 := Lib.hid (row_st3N HRW_6.out HNW14.out (.int .i64 1) (.slice pw nw cw) (.slice none 0 0))
            have HB7 := Lib.hid (st3_below (g := g14) HB6.out HG14.out (.int .i64 1) (.slice pw nw cw) (.slice none 0 0))
            unfold st3 at HA13_7 HA14_7 HRV_7 HRW_7 HB7
            go_simp
            generalize (((q6.setCell ⟨g14, 0, none⟩ (.int .i64 1)).setCell ⟨g14, 1, none⟩ (.slice pw nw cw)).setCell ⟨g14, 2, none⟩ (.slice none 0 0)) = q7 at *
            clear z0 z1 z2 f0 f1 f2
            refine hK.out _ _ (HS.out q7 HB7.out) (fun hS => ?_)
            clear hK K
            try simp only [Act.put, List.getElem_toArray, List.getElem_cons_succ, List.getElem_cons_zero, List.setIfInBounds_toArray, List.set_cons_zero, List.set_cons_succ]
            refine wpAnyH_take (i := 17) (v := ?_) rfl (by kernel_rfl) (by kernel_rfl) (by kernel_rfl) (fun _ _ _ h => h) (Or.inl ⟨by kernel_rfl, ?_⟩) (by first | assumption | trivial) ?_
            rotate_left
            · intro w hSw
              try dsimp only at hSw
              first | (go_simp; done) | (go_simp; with_reducible rfl)
            try simp only [Act.put, List.getElem_toArray, List.getElem_cons_succ, List.getElem_cons_zero, List.setIfInBounds_toArray, List.set_cons_zero, List.set_cons_succ]
            refine wpAnyH_done (by kernel_rfl) ?_ _
            go_wp2_with fail
            go_meet
            case rel => exact ⟨g13, g14, pv, nv, cv, pw, nw, cw, rfl, rfl, rfl, HA13_7.out, HA14_7.out, HRV_7.out, HRW_7.out, HLV.out, HLW.out, HB7.out⟩
          · skip
            go_simp
            have hb := oneB q3 (.cells #[.int .i64 0, .slice none 0 0, .slice none 0 0] 26)
            have HB4 := Lib.hid (HB3.out.trans (hb.mono HB3.out.size))
            have HA13_4 := Lib.hid (Blk.new q3 #[.int .i64 0, .slice none 0 0, .slice none 0 0] 26)
            have HG13 : Hid (WB.heap.size ≤ q3.heap.size) := HB3.out.size
            have HR3_4 := Lib.hid (HR3_3.out.kept hb)
            have HA14_4 := Lib.hid (HA14_3.out.below hb HA14_3.out.lt)
            have HR7_4 := Lib.hid (HR7_3.out.kept hb)
            have HNE : Hid (g14 < q3.heap.size) := HA14_3.out.lt
            clear hb
            generalize q3.alloc (.cells #[.int .i64 0, .slice none 0 0, .slice none 0 0] 26) = q4 at *
            generalize q3.heap.size = g13 at *
            refine hK.out _ _ (HS.out q4 HB4.out) (fun hS => ?_)
            clear hK K
            try simp only [Act.put, List.getElem_toArray, List.getElem_cons_succ, List.getElem_cons_zero, List.setIfInBounds_toArray, List.set_cons_zero, List.set_cons_succ]
            refine wpAnyH_ready (rs := [8]) (by kernel_rfl) (by simp) ?_
            refine AllReadyH.cons rfl (fun K hK => ?_) AllReadyH.nil
            go_simp
            go_at_call 9
            refine (HTW2.out q4 _ _ HR3_4.out HR7_4.out).mono ?_
            rintro y q5 ⟨pv, nv, cv, pw, nw, cw, rfl, hrv, hlv, hrw, hlw, hb, hov, how⟩
            have HB5 := Lib.hid (HB4.out.trans (hb.mono HB4.out.size))
            have HR3_5 := Lib.hid (HR3_4.out.kept hb)
            have HA14_5 := Lib.hid (HA14_4.out.below hb HA14_4.out.lt)
            have HR7_5 := Lib.hid (HR7_4.out.kept hb)
            have HA13_5 := Lib.hid (HA13_4.out.below hb HA13_4.out.lt)
            have HRV_5 := Lib.hid hrv
            have HRW_5 := Lib.hid hrw
            have HLV := Lib.hid hlv
            have HLW := Lib.hid hlw
            have HNV14 : Hid (NeB (.slice pv nv cv) (keepL cur X) g14) := .inr (fun k hk => by have := hov k hk; have := HA14_4.out.lt; omega)
            have HNW14 : Hid (NeB (.slice pw nw cw) (keepL cur Y) g14) := .inr (fun k hk => by have := how k hk; have := HA14_4.out.lt; omega)
            have HNV13 : Hid (NeB (.slice pv nv cv) (keepL cur X) g13) := .inr (fun k hk => by have := hov k hk; have := HA13_4.out.lt; omega)
            have HNW13 : Hid (NeB (.slice pw nw cw) (keepL cur Y) g13) := .inr (fun k hk => by have := how k hk; have := HA13_4.out.lt; omega)
            clear hrv hlv hrw hlw hb hov how
            try go_wp2_with fail
            refine hK.out _ _ (HS.out q5 HB5.out) (fun hS => ?_)
            clear hK K
            try simp only [Act.put, List.getElem_toArray, List.getElem_cons_succ, List.getElem_cons_zero, List.setIfInBounds_toArray, List.set_cons_zero, List.set_cons_succ]
            refine wpAnyH_take (i := 9) (v := ?_) rfl (by kernel_rfl) (by kernel_rfl) (by kernel_rfl) (fun _ _ _ h => h) (Or.inl ⟨by kernel_rfl, ?_⟩) (by first | assumption | trivial) ?_
            rotate_left
            · intro w hSw
              try dsimp only at hSw
              first | (go_simp; done) | (go_simp; with_reducible rfl)
            try simp only [Act.put, List.getElem_toArray, List.getElem_cons_succ, List.getElem_cons_zero, List.setIfInBounds_toArray, List.set_cons_zero, List.set_cons_succ]
            refine wpAnyH_take (i := 10) (v := ?_) rfl (by kernel_rfl) (by kernel_rfl) (by kernel_rfl) (fun _ _ _ h => h) (Or.inl ⟨by kernel_rfl, ?_⟩) (by first | assumption | trivial) ?_
            rotate_left
            · intro w hSw
              try dsimp only at hSw
              first | (go_simp; done) | (go_simp; with_reducible rfl)
            try simp only [Act.put, List.getElem_toArray, List.getElem_cons_succ, List.getElem_cons_zero, List.setIfInBounds_toArray, List.set_cons_zero, List.set_cons_succ]
            refine wpAnyH_take (i := 11) (v := ?_) rfl (by kernel_rfl) (by kernel_rfl) (by kernel_rfl) (fun _ _ _ h => h) (Or.inl ⟨by kernel_rfl, ?_⟩) (by first | assumption | trivial) ?_
            rotate_left
            · intro w hSw
              try dsimp only at hSw
              first | (go_simp; done) | (go_simp; with_reducible rfl)
            try simp only [Act.put, List.getElem_toArray, List.getElem_cons_succ, List.getElem_cons_zero, List.setIfInBounds_toArray, List.set_cons_zero, List.set_cons_succ]
            refine wpAnyH_take (i := 12) (v := ?_) rfl (by kernel_rfl) (by kernel_rfl) (by kernel_rfl) (fun _ _ _ h => h) (Or.inl ⟨by kernel_rfl, ?_⟩) (by first | assumption | trivial) ?_
            rotate_left
            · intro w hSw
              try dsimp only at hSw
              first | (go_simp; done) | (go_simp; with_reducible rfl)
            try simp only [Act.put, List.getElem_toArray, List.getElem_cons_succ, List.getElem_cons_zero, List.setIfInBounds_toArray, List.set_cons_zero, List.set_cons_succ]
            refine wpAnyH_ready (rs := [15]) (by kernel_rfl) (by simp) ?_
            refine AllReadyH.cons rfl (fun K hK => ?_) AllReadyH.nil
            have z0 : q5.cell? ⟨g13, 0, none⟩ = some (.int .i64 0) := HA13_5.out.cell 0
            have z1 : q5.cell? ⟨g13, 1, none⟩ = some (.slice none 0 0) := HA13_5.out.cell 1
            have z2 : q5.cell? ⟨g13, 2, none⟩ = some (.slice none 0 0) := HA13_5.out.cell 2
            have f0 := HA13_5.out.free 0
            have f1 := HA13_5.out.free 1
            have f2 := HA13_5.out.free 2
            have HA13_6 := Lib.hid (st3_blk HA13_5.out rfl (.int .i64 0) (.slice pv nv cv) (.slice none 0 0))
            have HA14_6 := Lib.hid (blk_st3 (g := g13) HA14_5.out (Nat.ne_of_lt HNE.out) (.int .i64 0) (.slice pv nv cv) (.slice none 0 0))
            have HRV_6 := Lib.hid (row_st3N HRV_5.out HNV13.out (.int .i64 0) (.slice pv nv cv) (.slice none 0 0))
            have HRW_6 := Lib.hid (row_st3N HRW_5.out HNW13.out (.int .i64 0) (.slice pv nv cv) (.slice none 0 0))
            have HB6 := Lib.hid (st3_below (g := g13) HB5.out HG13.out (.int .i64 0) (.slice pv nv cv) (.slice none 0 0))
            unfold st3 at HA13_6 HA14_6 HRV_6 HRW_6 HB6
            go_simp
            generalize (((q5.setCell ⟨g13, 0, none⟩ (.int .i64 0)).setCell ⟨g13, 1, none⟩ (.slice pv nv cv)).setCell ⟨g13, 2, none⟩ (.slice none 0 0)) = q6 at *
            clear z0 z1 z2 f0 f1 f2
            refine hK.out _ _ (HS.out q6 HB6.out) (fun hS => ?_)
            clear hK K
            try simp only [Act.put, List.getElem_toArray, List.getElem_cons_succ, List.getElem_cons_zero, List.setIfInBounds_toArray, List.set_cons_zero, List.set_cons_succ]
            refine wpAnyH_ready (rs := [16]) (by kernel_rfl) (by simp) ?_
            refine AllReadyH.cons rfl (fun K hK => ?_) AllReadyH.nil
            have z0 : q6.cell? ⟨g14, 0, none⟩ = some (.int .i64 0) := HA14_6.out.cell 0
            have z1 : q6.cell? ⟨g14, 1, none⟩ = some (.slice none 0 0) := HA14_6.out.cell 1
            have z2 : q6.cell? ⟨g14, 2, none⟩ = some (.slice none 0 0) := HA14_6.out.cell 2
            have f0 := HA14_6.out.free 0
            have f1 := HA14_6.out.free 1
            have f2 := HA14_6.out.free 2
            have HA14_7 := Lib.hid (st3_blk HA14_6.out rfl (.int .i64 1) (.slice pw nw cw) (.slice none 0 0))
            have HA13_7 := Lib.hid (blk_st3 (g := g14) HA13_6.out (Nat.ne_of_gt HNE.out) (.int .i64 1) (.slice pw nw cw) (.slice none 0 0))
            have HRV_7 := Lib.hid (row_st3N HRV_6.out HNV14.out (.int .i64 1) (.slice pw nw cw) (.slice none 0 0))
            have HRW_7 := Lib.hid (row_st3N HRW_6.out HNW14.out (.int .i64 1) (.slice pw nw cw) (.slice none 0 0))
            have HB7 := Lib.hid (st3_below (g := g14) HB6.out HG14.out (.int .i64 1) (.slice pw nw cw) (.slice none 0 0))
            unfold st3 at HA13_7 HA14_7 HRV_7 HRW_7 HB7
            go_simp
            generalize (((q6.setCell ⟨g14, 0, none⟩ (.int .i64 1)).setCell ⟨g14, 1, none⟩ (.slice pw nw cw)).setCell ⟨g14, 2, none⟩ (.slice none 0 0)) = q7 at *
            clear z0 z1 z2 f0 f1 f2
            refine hK.out _ _ (HS.out q7 HB7.out) (fun hS => ?_)
            clear hK K
            try simp only [Act.put, List.getElem_toArray, List.getElem_cons_succ, List.getElem_cons_zero, List.setIfInBounds_toArray, List.set_cons_zero, List.set_cons_succ]
            refine wpAnyH_take (i := 17) (v := ?_) rfl (by kernel_rfl) (by kernel_rfl) (by kernel_rfl) (fun _ _ _ h => h) (Or.inl ⟨by kernel_rfl, ?_⟩) (by first | assumption | trivial) ?_
            rotate_left
            · intro w hSw
              try dsimp only at hSw
              first | (go_simp; done) | (go_simp; with_reducible rfl)
            try simp only [Act.put, List.getElem_toArray, List.getElem_cons_succ, List.getElem_cons_zero, List.setIfInBounds_toArray, List.set_cons_zero, List.set_cons_succ]
            refine wpAnyH_done (by kernel_rfl) ?_ _
            go_wp2_with fail
            go_meet
            case rel => exact ⟨g13, g14, pv, nv, cv, pw, nw, cw, rfl, rfl, rfl, HA13_7.out, HA14_7.out, HRV_7.out, HRW_7.out, HLV.out, HLW.out, HB7.out⟩
        · skip
          go_simp
          have hb := oneB q2 (.cells #[.int .i64 0, .slice none 0 0, .slice none 0 0] 26)
          have HB3 := Lib.hid (HB2.out.trans (hb.mono HB2.out.size))
          have HA13_3 := Lib.hid (Blk.new q2 #[.int .i64 0, .slice none 0 0, .slice none 0 0] 26)
          have HG13 : Hid (WB.heap.size ≤ q2.heap.size) := HB2.out.size
          have HR3_3 := Lib.hid (HR3_2.out.kept hb)
          have HA14_3 := Lib.hid (HA14_2.out.below hb HA14_2.out.lt)
          have HNE : Hid (g14 < q2.heap.size) := HA14_2.out.lt
          clear hb
          generalize q2.alloc (.cells #[.int .i64 0, .slice none 0 0, .slice none 0 0] 26) = q3 at *
          generalize q2.heap.size = g13 at *
          refine hK.out _ _ (HS.out q3 HB3.out) (fun hS => ?_)
          clear hK K
          try simp only [Act.put, List.getElem_toArray, List.getElem_cons_succ, List.getElem_cons_zero, List.setIfInBounds_toArray, List.set_cons_zero, List.set_cons_succ]
          refine wpAnyH_ready (rs := [7]) (by kernel_rfl) (by simp) ?_
          refine AllReadyH.cons rfl (fun K hK => ?_) AllReadyH.nil
          go_simp
          go_at_call 20
          refine (HKEEPY.out q3 HB3.out).mono ?_
          rintro y q4 ⟨vv7, rfl, ho7, hb⟩
          have HB4 := Lib.hid (HB3.out.trans (hb.mono HB3.out.size))
          obtain ⟨pk7, ck7, hv7⟩ := ho7.form
          generalize hk7 : (keepL cur Y).length = nk7 at hv7
          subst hv7
          have HR7_4 := Lib.hid ho7.row
          have HR3_4 := Lib.hid (HR3_3.out.kept hb)
          have HA14_4 := Lib.hid (HA14_3.out.below hb HA14_3.out.lt)
          have HA13_4 := Lib.hid (HA13_3.out.below hb HA13_3.out.lt)
          clear hb ho7 hk7
          try go_wp2_with fail
          refine hK.out _ _ (HS.out q4 HB4.out) (fun hS => ?_)
          clear hK K
          try simp only [Act.put, List.getElem_toArray, List.getElem_cons_succ, List.getElem_cons_zero, List.setIfInBounds_toArray, List.set_cons_zero, List.set_cons_succ]
          refine wpAnyH_ready (rs := [8]) (by kernel_rfl) (by simp) ?_
          refine AllReadyH.cons rfl (fun K hK => ?_) AllReadyH.nil
          go_simp
          go_at_call 9
          refine (HTW2.out q4 _ _ HR3_4.out HR7_4.out).mono ?_
          rintro y q5 ⟨pv, nv, cv, pw, nw, cw, rfl, hrv, hlv, hrw, hlw, hb, hov, how⟩
          have HB5 := Lib.hid (HB4.out.trans (hb.mono HB4.out.size))
          have HR3_5 := Lib.hid (HR3_4.out.kept hb)
          have HA14_5 := Lib.hid (HA14_4.out.below hb HA14_4.out.lt)
          have HA13_5 := Lib.hid (HA13_4.out.below hb HA13_4.out.lt)
          have HR7_5 := Lib.hid (HR7_4.out.kept hb)
          have HRV_5 := Lib.hid hrv
          have HRW_5 := Lib.hid hrw
          have HLV := Lib.hid hlv
          have HLW := Lib.hid hlw
          have HNV14 : Hid (NeB (.slice pv nv cv) (keepL cur X) g14) := .inr (fun k hk => by have := hov k hk; have := HA14_4.out.lt; omega)
          have HNW14 : Hid (NeB (.slice pw nw cw) (keepL cur Y) g14) := .inr (fun k hk => by have := how k hk; have := HA14_4.out.lt; omega)
          have HNV13 : Hid (NeB (.slice pv nv cv) (keepL cur X) g13) := .inr (fun k hk => by have := hov k hk; have := HA13_4.out.lt; omega)
          have HNW13 : Hid (NeB (.slice pw nw cw) (keepL cur Y) g13) := .inr (fun k hk => by have := how k hk; have := HA13_4.out.lt; omega)
          clear hrv hlv hrw hlw hb hov how
          try go_wp2_with fail
          refine hK.out _ _ (HS.out q5 HB5.out) (fun hS => ?_)
          clear hK K
          try simp only [Act.put, List.getElem_toArray, List.getElem_cons_succ, List.getElem_cons_zero, List.setIfInBounds_toArray, List.set_cons_zero, List.set_cons_succ]
          refine wpAnyH_take (i := 9) (v := ?_) rfl (by kernel_rfl) (by kernel_rfl) (by kernel_rfl) (fun _ _ _ h => h) (Or.inl ⟨by kernel_rfl, ?_⟩) (by first | assumption | trivial) ?_
          rotate_left
          · intro w hSw
            try dsimp only at hSw
            first | (go_simp; done) | (go_simp; with_reducible rfl)
          try simp only [Act.put, List.getElem_toArray, List.getElem_cons_succ, List.getElem_cons_zero, List.setIfInBounds_toArray, List.set_cons_zero, List.set_cons_succ]
          refine wpAnyH_take (i := 10) (v := ?_) rfl (by kernel_rfl) (by kernel_rfl) (by kernel_rfl) (fun _ _ _ h => h) (Or.inl ⟨by kernel_rfl, ?_⟩) (by first | assumption | trivial) ?_
          rotate_left
          · intro w hSw
            try dsimp only at hSw
            first | (go_simp; done) | (go_simp; with_reducible rfl)
          try simp only [Act.put, List.getElem_toArray, List.getElem_cons_succ, List.getElem_cons_zero, List.setIfInBounds_toArray, List.set_cons_zero, List.set_cons_succ]
          refine wpAnyH_take (i := 11) (v := ?_) rfl (by kernel_rfl) (by kernel_rfl) (by kernel_rfl) (fun _ _ _ h => h) (Or.inl ⟨by kernel_rfl, ?_⟩) (by first | assumption | trivial) ?_
          rotate_left
          · intro w hSw
            try dsimp only at hSw
            first | (go_simp; done) | (go_simp; with_reducible rfl)
          try simp only [Act.put, List.getElem_toArray, List.getElem_cons_succ, List.getElem_cons_zero, List.setIfInBounds_toArray, List.set_cons_zero, List.set_cons_succ]
          refine wpAnyH_take (i := 12) (v := ?_) rfl (by kernel_rfl) (by kernel_rfl) (by kernel_rfl) (fun _ _ _ h => h) (Or.inl ⟨by kernel_rfl, ?_⟩) (by first | assumption | trivial) ?_
          rotate_left
          · intro w hSw
            try dsimp only at hSw
            first | (go_simp; done) | (go_simp; with_reducible rfl)
          try simp only [Act.put, List.getElem_toArray, List.getElem_cons_succ, List.getElem_cons_zero, List.setIfInBounds_toArray, List.set_cons_zero, List.set_cons_succ]
          refine wpAnyH_ready (rs := [15]) (by kernel_rfl) (by simp) ?_
          refine AllReadyH.cons rfl (fun K hK => ?_) AllReadyH.nil
          have z0 : q5.cell? ⟨g13, 0, none⟩ = some (.int .i64 0) := HA13_5.out.cell 0
          have z1 : q5.cell? ⟨g13, 1, none⟩ = some (.slice none 0 0) := HA13_5.out.cell 1
          have z2 : q5.cell? ⟨g13, 2, none⟩ = some (.slice none 0 0) := HA13_5.out.cell 2
          have f0 := HA13_5.out.free 0
          have f1 := HA13_5.out.free 1
          have f2 := HA13_5.out.free 2
          have HA13_6 := Lib.hid (st3_blk HA13_5.out rfl (.int .i64 0) (.slice pv nv cv) (.slice none 0 0))
          have HA14_6 := Lib.hid (blk_st3 (g := g13) HA14_5.out (Nat.ne_of_lt HNE.out) (.int .i64 0) (.slice pv nv cv) (.slice none 0 0))
          have HRV_6 := Lib.hid (row_st3N HRV_5.out HNV13.out (.int .i64 0) (.slice pv nv cv) (.slice none 0 0))
          have HRW_6 := Lib.hid (row_st3N HRW_5.out HNW13.out (.int .i64 0) (.slice pv nv cv) (.slice none 0 0))
          have HB6 := Lib.hid (st3_below (g := g13) HB5.out HG13.out (.int .i64 0) (.slice pv nv cv) (.slice none 0 0))
          unfold st3 at HA13_6 HA14_6 HRV_6 HRW_6 HB6
          go_simp
          generalize (((q5.setCell ⟨g13, 0, none⟩ (.int .i64 0)).setCell ⟨g13, 1, none⟩ (.slice pv nv cv)).setCell ⟨g13, 2, none⟩ (.slice none 0 0)) = q6 at *
          clear z0 z1 z2 f0 f1 f2
          refine hK.out _ _ (HS.out q6 HB6.out) (fun hS => ?_)
          clear hK K
          try simp only [Act.put, List.getElem_toArray, List.getElem_cons_succ, List.getElem_cons_zero, List.setIfInBounds_toArray, List.set_cons_zero, List.set_cons_succ]
          refine wpAnyH_ready (rs := [16]) (by kernel_rfl) (by simp) ?_
          refine AllReadyH.cons rfl (fun K hK => ?_) AllReadyH.nil
          have z0 : q6.cell? ⟨g14, 0, none⟩ = some (.int .i64 0) := HA14_6.out.cell 0
          have z1 : q6.cell? ⟨g14, 1, none⟩ = some (.slice none 0 0) := HA14_6.out.cell 1
          have z2 : q6.cell? ⟨g14, 2, none⟩ = some (.slice none 0 0) := HA14_6.out.cell 2
          have f0 := HA14_6.out.free 0
          have f1 := HA14_6.out.free 1
          have f2 := HA14_6.out.free 2
          have HA14_7 := Lib.hid (st3_blk HA14_6.out rfl (.int .i64 1) (.slice pw nw cw) (.slice none 0 0))
          have HA13_7 := Lib.hid (blk_st3 (g := g14) HA13_6.out (Nat.ne_of_gt HNE.out) (.int .i64 1) (.slice pw nw cw) (.slice none 0 0))
          have HRV_7 := Lib.hid (row_st3N HRV_6.out HNV14.out (.int .i64 1) (.slice pw nw cw) (.slice none 0 0))
          have HRW_7 := Lib.hid (row_st3N HRW_6.out HNW14.out (.int .i64 1) (.slice pw nw cw) (.slice none 0 0))
          have HB7 := Lib.hid (st3_below (g := g14) HB6.out HG14.out (.int .i64 1) (.slice pw nw cw) (.slice none 0 0))
          unfold st3 at HA13_7 HA14_7 HRV_7 HRW_7 HB7
          go_simp
          generalize (((q6.setCell ⟨g14, 0, none⟩ (.int .i64 1)).setCell ⟨g14, 1, none⟩ (.slice pw nw cw)).setCell ⟨g14, 2, none⟩ (.slice none 0 0)) = q7 at *
          clear z0 z1 z2 f0 f1 f2
          refine hK.out _ _ (HS.out q7 HB7.out) (fun hS => ?_)
          clear hK K
          try simp only [Act.put, List.getElem_toArray, List.getElem_cons_succ, List.getElem_cons_zero, List.setIfInBounds_toArray, List.set_cons_zero, List.set_cons_succ]
          refine wpAnyH_take (i := 17) (v := ?_) rfl (by kernel_rfl) (by kernel_rfl) (by kernel_rfl) (fun _ _ _ h => h) (Or.inl ⟨by kernel_rfl, ?_⟩) (by first | assumption | trivial) ?_
          rotate_left
          · intro w hSw
            try dsimp only at hSw
            first | (go_simp; done) | (go_simp; with_reducible rfl)
          try simp only [Act.put, List.getElem_toArray, List.getElem_cons_succ, List.getElem_cons_zero, List.setIfInBounds_toArray, List.set_cons_zero, List.set_cons_succ]
          refine wpAnyH_done (by kernel_rfl) ?_ _
          go_wp2_with fail
          go_meet
          case rel => exact ⟨g13, g14, pv, nv, cv, pw, nw, cw, rfl, rfl, rfl, HA13_7.out, HA14_7.out, HRV_7.out, HRW_7.out, HLV.out, HLW.out, HB7.out⟩
    · skip
      go_simp
      have hb := oneB q0 (.cells #[.int .i64 0, .slice none 0 0, .slice none 0 0] 26)
      have HB1 := Lib.hid (HB0.out.trans (hb.mono HB0.out.size))
      have HA13_1 := Lib.hid (Blk.new q0 #[.int .i64 0, .slice none 0 0, .slice none 0 0] 26)
      have HG13 : Hid (WB.heap.size ≤ q0.heap.size) := HB0.out.size
      clear hb
      generalize q0.alloc (.cells #[.int .i64 0, .slice none 0 0, .slice none 0 0] 26) = q1 at *
      generalize q0.heap.size = g13 at *
      refine hK.out _ _ (HS.out q1 HB1.out) (fun hS => ?_)
      clear hK K
      try simp only [Act.put, List.getElem_toArray, List.getElem_cons_succ, List.getElem_cons_zero, List.setIfInBounds_toArray, List.set_cons_zero, List.set_cons_succ]
      refine wpAnyH_ready (rs := [3, 14]) (by kernel_rfl) (by simp) ?_
      refine AllReadyH.cons rfl (fun K hK => ?_) (AllReadyH.cons rfl (fun K hK => ?_) AllReadyH.nil)
      · skip
        go_simp
        go_at_call 20
        refine (HKEEPX.out q1 HB1.out).mono ?_
        rintro y q2 ⟨vv3, rfl, ho3, hb⟩
        have HB2 := Lib.hid (HB1.out.trans (hb.mono HB1.out.size))
        obtain ⟨pk3, ck3, hv3⟩ := ho3.form
        generalize hk3 : (keepL cur X).length = nk3 at hv3
        subst hv3
        have HR3_2 := Lib.hid ho3.row
        have HA13_2 := Lib.hid (HA13_1.out.below hb HA13_1.out.lt)
        clear hb ho3 hk3
        try go_wp2_with fail
        refine hK.out _ _ (HS.out q2 HB2.out) (fun hS => ?_)
        clear hK K
        try simp only [Act.put, List.getElem_toArray, List.getElem_cons_succ, List.getElem_cons_zero, List.setIfInBounds_toArray, List.set_cons_zero, List.set_cons_succ]
        refine wpAnyH_ready (rs := [7, 14]) (by kernel_rfl) (by simp) ?_
        refine AllReadyH.cons rfl (fun K hK => ?_) (AllReadyH.cons rfl (fun K hK => ?_) AllReadyH.nil)
        · skip
          go_simp
          go_at_call 20
          refine (HKEEPY.out q2 HB2.out).mono ?_
          rintro y q3 ⟨vv7, rfl, ho7, hb⟩
          have HB3 := Lib.hid (HB2.out.trans (hb.mono HB2.out.size))
          obtain ⟨pk7, ck7, hv7⟩ := ho7.form
          generalize hk7 : (keepL cur Y).length = nk7 at hv7
          subst hv7
          have HR7_3 := Lib.hid ho7.row
          have HA13_3 := Lib.hid (HA13_2.out.below hb HA13_2.out.lt)
          have HR3_3 := Lib.hid (HR3_2.out.kept hb)
          clear hb ho7 hk7
          try go_wp2_with fail
          refine hK.out _ _ (HS.out q3 HB3.out) (fun hS => ?_)
          clear hK K
          try simp only [Act.put, List.getElem_toArray, List.getElem_cons_succ, List.getElem_cons_zero, List.setIfInBounds_toArray, List.set_cons_zero, List.set_cons_succ]
          refine wpAnyH_ready (rs := [8, 14]) (by kernel_rfl) (by simp) ?_
          refine AllReadyH.cons rfl (fun K hK => ?_) (AllReadyH.cons rfl (fun K hK => ?_) AllReadyH.nil)
          · skip
            go_simp
            go_at_call 9
            refine (HTW2.out q3 _ _ HR3_3.out HR7_3.out).mono ?_
            rintro y q4 ⟨pv, nv, cv, pw, nw, cw, rfl, hrv, hlv, hrw, hlw, hb, hov, how⟩
            have HB4 := Lib.hid (HB3.out.trans (hb.mono HB3.out.size))
            have HA13_4 := Lib.hid (HA13_3.out.below hb HA13_3.out.lt)
            have HR3_4 := Lib.hid (HR3_3.out.kept hb)
            have HR7_4 := Lib.hid (HR7_3.out.kept hb)
            have HRV_4 := Lib.hid hrv
            have HRW_4 := Lib.hid hrw
            have HLV := Lib.hid hlv
            have HLW := Lib.hid hlw
            have HNV13 : Hid (NeB (.slice pv nv cv) (keepL cur X) g13) := .inr (fun k hk => by have := hov k hk; have := HA13_3.out.lt; omega)
            have HNW13 : Hid (NeB (.slice pw nw cw) (keepL cur Y) g13) := .inr (fun k hk => by have := how k hk; have := HA13_3.out.lt; omega)
            clear hrv hlv hrw hlw hb hov how
            try go_wp2_with fail
            refine hK.out _ _ (HS.out q4 HB4.out) (fun hS => ?_)
            clear hK K
            try simp only [Act.put, List.getElem_toArray, List.getElem_cons_succ, List.getElem_cons_zero, List.setIfInBounds_toArray, List.set_cons_zero, List.set_cons_succ]
            refine wpAnyH_take (i := 9) (v := ?_) rfl (by kernel_rfl) (by kernel_rfl) (by kernel_rfl) (fun _ _ _ h => h) (Or.inl ⟨by kernel_rfl, ?_⟩) (by first | assumption | trivial) ?_
            rotate_left
            · intro w hSw
              try dsimp only at hSw
              first | (go_simp; done) | (go_simp; with_reducible rfl)
            try simp only [Act.put, List.getElem_toArray, List.getElem_cons_succ, List.getElem_cons_zero, List.setIfInBounds_toArray, List.set_cons_zero, List.set_cons_succ]
            refine wpAnyH_take (i := 10) (v := ?_) rfl (by kernel_rfl) (by kernel_rfl) (by kernel_rfl) (fun _ _ _ h => h) (Or.inl ⟨by kernel_rfl, ?_⟩) (by first | assumption | trivial) ?_
            rotate_left
            · intro w hSw
              try dsimp only at hSw
              first | (go_simp; done) | (go_simp; with_reducible rfl)
            try simp only [Act.put, List.getElem_toArray, List.getElem_cons_succ, List.getElem_cons_zero, List.setIfInBounds_toArray, List.set_cons_zero, List.set_cons_succ]
            refine wpAnyH_take (i := 11) (v := ?_) rfl (by kernel_rfl) (by kernel_rfl) (by kernel_rfl) (fun _ _ _ h => h) (Or.inl ⟨by kernel_rfl, ?_⟩) (by first | assumption | trivial) ?_
            rotate_left
            · intro w hSw
              try dsimp only at hSw
              first | (go_simp; done) | (go_simp; with_reducible rfl)
            try simp only [Act.put, List.getElem_toArray, List.getElem_cons_succ, List.getElem_cons_zero, List.setIfInBounds_toArray, List.set_cons_zero, List.set_cons_succ]
            refine wpAnyH_take (i := 12) (v := ?_) rfl (by kernel_rfl) (by kernel_rfl) (by kernel_rfl) (fun _ _ _ h => h) (Or.inl ⟨by kernel_rfl, ?_⟩) (by first | assumption | trivial) ?_
            rotate_left
            · intro w hSw
              try dsimp only at hSw
              first | (go_simp; done) | (go_simp; with_reducible rfl)
            try simp only [Act.put, List.getElem_toArray, List.getElem_cons_succ, List.getElem_cons_zero, List.setIfInBounds_toArray, List.set_cons_zero, List.set_cons_succ]
            refine wpAnyH_ready (rs := [14]) (by kernel_rfl) (by simp) ?_
            refine AllReadyH.cons rfl (fun K hK => ?_) AllReadyH.nil
            go_simp
            have hb := oneB q4 (.cells #[.int .i64 0, .slice none 0 0, .slice none 0 0] 26)
            have HB5 := Lib.hid (HB4.out.trans (hb.mono HB4.out.size))
            have HA14_5 := Lib.hid (Blk.new q4 #[.int .i64 0, .slice none 0 0, .slice none 0 0] 26)
            have HG14 : Hid (WB.heap.size ≤ q4.heap.size) := HB4.out.size
            have HA13_5 := Lib.hid (HA13_4.out.below hb HA13_4.out.lt)
            have HR3_5 := Lib.hid (HR3_4.out.kept hb)
            have HR7_5 := Lib.hid (HR7_4.out.kept hb)
            have HRV_5 := Lib.hid (HRV_4.out.kept hb)
            have HRW_5 := Lib.hid (HRW_4.out.kept hb)
            have HNE : Hid (g13 < q4.heap.size) := HA13_4.out.lt
            have HNV14 := Lib.hid HRV_4.out.ne_new
            have HNW14 := Lib.hid HRW_4.out.ne_new
            clear hb
            generalize q4.alloc (.cells #[.int .i64 0, .slice none 0 0, .slice none 0 0] 26) = q5 at *
            generalize q4.heap.size = g14 at *
            refine hK.out _ _ (HS.out q5 HB5.out) (fun hS => ?_)
            clear hK K
            try simp only [Act.put, List.getElem_toArray, List.getElem_cons_succ, List.getElem_cons_zero, List.setIfInBounds_toArray, List.set_cons_zero, List.set_cons_succ]
            refine wpAnyH_ready (rs := [15]) (by kernel_rfl) (by simp) ?_
            refine AllReadyH.cons rfl (fun K hK => ?_) AllReadyH.nil
            have z0 : q5.cell? ⟨g13, 0, none⟩ = some (.int .i64 0) := HA13_5.out.cell 0
            have z1 : q5.cell? ⟨g13, 1, none⟩ = some (.slice none 0 0) := HA13_5.out.cell 1
            have z2 : q5.cell? ⟨g13, 2, none⟩ = some (.slice none 0 0) := HA13_5.out.cell 2
            have f0 := HA13_5.out.free 0
            have f1 := HA13_5.out.free 1
            have f2 := HA13_5.out.free 2
            have HA13_6 := Lib.hid (st3_blk HA13_5.out rfl (.int .i64 0) (.slice pv nv cv) (.slice none 0 0))
            have HA14_6 := Lib.hid (blk_st3 (g := g13) HA14_5.out (Nat.ne_of_gt HNE.out) (.int .i64 0) (.slice pv nv cv) (.slice none 0 0))
            have HRV_6 := Lib.hid (row_st3N HRV_5.out HNV13.out (.int .i64 0) (.slice pv nv cv) (.slice none 0 0))
            have HRW_6 := Lib.hid (row_st3N HRW_5.out HNW13.out (.int .i64 0) (.slice pv nv cv) (.slice none 0 0))
            have HB6 := Lib.hid (st3_below (g := g13) HB5.out HG13.out (.int .i64 0) (.slice pv nv cv) (.slice none 0 0))
            unfold st3 at HA13_6 HA14_6 HRV_6 HRW_6 HB6
            go_simp
            generalize (((q5.setCell ⟨g13, 0, none⟩ (.int .i64 0)).setCell ⟨g13, 1, none⟩ (.slice pv nv cv)).setCell ⟨g13, 2, none⟩ (.slice none 0 0)) = q6 at *
            clear z0 z1 z2 f0 f1 f2
            refine hK.out _ _ (HS.out q6 HB6.out) (fun hS => ?_)
            clear hK K
            try simp only [Act.put, List.getElem_toArray, List.getElem_cons_succ, List.getElem_cons_zero, List.setIfInBounds_toArray, List.set_cons_zero, List.set_cons_succ]
            refine wpAnyH_ready (rs := [16]) (by kernel_rfl) (by simp) ?_
            refine AllReadyH.cons rfl (fun K hK => ?_) AllReadyH.nil
            have z0 : q6.cell? ⟨g14, 0, none⟩ = some (.int .i64 0) := HA14_6.out.cell 0
            have z1 : q6.cell? ⟨g14, 1, none⟩ = some (.slice none 0 0) := HA14_6.out.cell 1
            have z2 : q6.cell? ⟨g14, 2, none⟩ = some (.slice none 0 0) := HA14_6.out.cell 2
            have f0 := HA14_6.out.free 0
            have f1 := HA14_6.out.free 1
            have f2 := HA14_6.out.free 2
            have HA14_7 := Lib.hid (st3_blk HA14_6.out rfl (.int .i64 1) (.slice pw nw cw) (.slice none 0 0))
            have HA13_7 := Lib.hid (blk_st3 (g := g14) HA13_6.out (Nat.ne_of_lt HNE.out) (.int .i64 1) (.slice pw nw cw) (.slice none 0 0))
            have HRV_7 := Lib.hid (row_st3N HRV_6.out HNV14.out (.int .i64 1) (.slice pw nw cw) (.slice none 0 0))
            have HRW_7 := Lib.hid (row_st3N HRW_6.out HNW14.out (.int .i64 1) (.slice pw nw cw) (.slice none 0 0))
            have HB7 := Lib.hid (st3_below (g := g14) HB6.out HG14.out (.int .i64 1) (.slice pw nw cw) (.slice none 0 0))
            unfold st3 at HA13_7 HA14_7 HRV_7 HRW_7 HB7
            go_simp
            generalize (((q6.setCell ⟨g14, 0, none⟩ (.int .i64 1)).setCell ⟨g14, 1, none⟩ (.slice pw nw cw)).setCell ⟨g14, 2, none⟩ (.slice none 0 0)) = q7 at *
            clear z0 z1 z2 f0 f1 f2
            refine hK.out _ _ (HS.out q7 HB7.out) (fun hS => ?_)
            clear hK K
            try simp only [Act.put, List.getElem_toArray, List.getElem_cons_succ, List.getElem_cons_zero, List.setIfInBounds_toArray, List.set_cons_zero, List.set_cons_succ]
            refine wpAnyH_take (i := 17) (v := ?_) rfl (by kernel_rfl) (by kernel_rfl) (by kernel_rfl) (fun _ _ _ h => h) (Or.inl ⟨by kernel_rfl, ?_⟩) (by first | assumption | trivial) ?_
            rotate_left
            · intro w hSw
              try dsimp only at hSw
              first | (go_simp; done) | (go_simp; with_reducible rfl)
            try simp only [Act.put, List.getElem_toArray, List.getElem_cons_succ, List.getElem_cons_zero, List.setIfInBounds_toArray, List.set_cons_zero, List.set_cons_succ]
            refine wpAnyH_done (by kernel_rfl) ?_ _
            go_wp2_with fail
            go_meet
            case rel => exact ⟨g13, g14, pv, nv, cv, pw, nw, cw, rfl, rfl, rfl, HA13_7.out, HA14_7.out, HRV_7.out, HRW_7.out, HLV.out, HLW.out, HB7.out⟩
          · skip
            go_simp
            have hb := oneB q3 (.cells #[.int .i64 0, .slice none 0 0, .slice none 0 0] 26)
            have HB4 := Lib.hid (HB3.out.trans (hb.mono HB3.out.size))
            have HA14_4 := Lib.hid (Blk.new q3 #[.int .i64 0, .slice none 0 0, .slice none 0 0] 26)
            have HG14 : Hid (WB.heap.size ≤ q3.heap.size) := HB3.out.size
            have HA13_4 := Lib.hid (HA13_3.out.below hb HA13_3.out.lt)
            have HR3_4 := Lib.hid (HR3_3.out.kept hb)
            have HR7_4 := Lib.hid (HR7_3.out.kept hb)
            have HNE : Hid (g13 < q3.heap.size) := HA13_3.out.lt
            clear hb
            generalize q3.alloc (.cells #[.int .i64 0, .slice none 0 0, .slice none 0 0] 26) = q4 at *
            generalize q3.heap.size = g14 at *
            refine hK.out _ _ (HS.out q4 HB4.out) (fun hS => ?_)
            clear hK K
            try simp only [Act.put, List.getElem_toArray, List.getElem_cons_succ, List.getElem_cons_zero, List.setIfInBounds_toArray, List.set_cons_zero, List.set_cons_succ]
            refine wpAnyH_ready (rs := [8]) (by kernel_rfl) (by simp) ?_
            refine AllReadyH.cons rfl (fun K hK => ?_) AllReadyH.nil
            go_simp
            go_at_call 9
            refine (HTW2.out q4 _ _ HR3_4.out HR7_4.out).mono ?_
            rintro y q5 ⟨pv, nv, cv, pw, nw, cw, rfl, hrv, hlv, hrw, hlw, hb, hov, how⟩
            have HB5 := Lib.hid (HB4.out.trans (hb.mono HB4.out.size))
            have HA13_5 := Lib.hid (HA13_4.out.below hb HA13_4.out.lt)
            have HR3_5 := Lib.hid (HR3_4.out.kept hb)
            have HR7_5 := Lib.hid (HR7_4.out.kept hb)
            have HA14_5 := Lib.hid (HA14_4.out.below hb HA14_4.out.lt)
            have HRV_5 := Lib.hid hrv
            have HRW_5 := Lib.hid hrw
            have HLV := Lib.hid hlv
            have HLW := Lib.hid hlw
            have HNV13 : Hid (NeB (.slice pv nv cv) (keepL cur X) g13) := .inr (fun k hk => by have := hov k hk; have := HA13_4.out.lt; omega)
            have HNW13 : Hid (NeB (.slice pw nw cw) (keepL cur Y) g13) := .inr (fun k hk => by have := how k hk; have := HA13_4.out.lt; omega)
            have HNV14 : Hid (NeB (.slice pv nv cv) (keepL cur X) g14) := .inr (fun k hk => by have := hov k hk; have := HA14_4.out.lt; omega)
            have HNW14 : Hid (NeB (.slice pw nw cw) (keepL cur Y) g14) := .inr (fun k hk => by have := how k hk; have := HA14_4.out.lt; omega)
            clear hrv hlv hrw hlw hb hov how
            try go_wp2_with fail
            refine hK.out _ _ (HS.out q5 HB5.out) (fun hS => ?_)
            clear hK K
            try simp only [Act.put, List.getElem_toArray, List.getElem_cons_succ, List.getElem_cons_zero, List.setIfInBounds_toArray, List.set_cons_zero, List.set_cons_succ]
            refine wpAnyH_take (i := 9) (v := ?_) rfl (by kernel_rfl) (by kernel_rfl) (by kernel_rfl) (fun _ _ _ h => h) (Or.inl ⟨by kernel_rfl, ?_⟩) (by first | assumption | trivial) ?_
            rotate_left
            · intro w hSw
              try dsimp only at hSw
              first | (go_simp; done) | (go_simp; with_reducible rfl)
            try simp only [Act.put, List.getElem_toArray, List.getElem_cons_succ, List.getElem_cons_zero, List.setIfInBounds_toArray, List.set_cons_zero, List.set_cons_succ]
            refine wpAnyH_take (i := 10) (v := ?_) rfl (by kernel_rfl) (by kernel_rfl) (by kernel_rfl) (fun _ _ _ h => h) (Or.inl ⟨by kernel_rfl, ?_⟩) (by first | assumption | trivial) ?_
            rotate_left
            · intro w hSw
              try dsimp only at hSw
              first | (go_simp; done) | (go_simp; with_reducible rfl)
            try simp only [Act.put, List.getElem_toArray, List.getElem_cons_succ, List.getElem_cons_zero, List.setIfInBounds_toArray, List.set_cons_zero, List.set_cons_succ]
            refine wpAnyH_take (i := 11) (v := ?_) rfl (by kernel_rfl) (by kernel_rfl) (by kernel_rfl) (fun _ _ _ h => h) (Or.inl ⟨by kernel_rfl, ?_⟩) (by first | assumption | trivial) ?_
            rotate_left
            · intro w hSw
              try dsimp only at hSw
              first | (go_simp; done) | (go_simp; with_reducible rfl)
            try simp only [Act.put, List.getElem_toArray, List.getElem_cons_succ, List.getElem_cons_zero, List.setIfInBounds_toArray, List.set_cons_zero, List.set_cons_succ]
            refine wpAnyH_take (i := 12) (v := ?_) rfl (by kernel_rfl) (by kernel_rfl) (by kernel_rfl) (fun _ _ _ h => h) (Or.inl ⟨by kernel_rfl, ?_⟩) (by first | assumption | trivial) ?_
            rotate_left
            · intro w hSw
              try dsimp only at hSw
              first | (go_simp; done) | (go_simp; with_reducible rfl)
            try simp only [Act.put, List.getElem_toArray, List.getElem_cons_succ, List.getElem_cons_zero, List.setIfInBounds_toArray, List.set_cons_zero, List.set_cons_succ]
            refine wpAnyH_ready (rs := [15]) (by kernel_rfl) (by simp) ?_
            refine AllReadyH.cons rfl (fun K hK => ?_) AllReadyH.nil
            have z0 : q5.cell? ⟨g13, 0, none⟩ = some (.int .i64 0) := HA13_5.out.cell 0
            have z1 : q5.cell? ⟨g13, 1, none⟩ = some (.slice none 0 0) := HA13_5.out.cell 1
            have z2 : q5.cell? ⟨g13, 2, none⟩ = some (.slice none 0 0) := HA13_5.out.cell 2
            have f0 := HA13_5.out.free 0
            have f1 := HA13_5.out.free 1
            have f2 := HA13_5.out.free 2
            have HA13_6 := Lib.hid (st3_blk HA13_5.out rfl (.int .i64 0) (.slice pv nv cv) (.slice none 0 0))
            have HA14_6 := Lib.hid (blk_st3 (g := g13) HA14_5.out (Nat.ne_of_gt HNE.out) (.int .i64 0) (.slice pv nv cv) (.slice none 0 0))
            have HRV_6 := Lib.hid (row_st3N HRV_5.out HNV13.out (.int .i64 0) (.slice pv nv cv) (.slice none 0 0))
            have HRW_6 := Lib.hid (row_st3N HRW_5.out HNW13.out (.int .i64 0) (.slice pv nv cv) (.slice none 0 0))
            have HB6 := Lib.hid (st3_below (g := g13) HB5.out HG13.out (.int .i64 0) (.slice pv nv cv) (.slice none 0 0))
            unfold st3 at HA13_6 HA14_6 HRV_6 HRW_6 HB6
            go_simp
            generalize (((q5.setCell ⟨g13, 0, none⟩ (.int .i64 0)).setCell ⟨g13, 1, none⟩ (.slice pv nv cv)).setCell ⟨g13, 2, none⟩ (.slice none 0 0)) = q6 at *
            clear z0 z1 z2 f0 f1 f2
            refine hK.out _ _ (HS.out q6 HB6.out) (fun hS => ?_)
            clear hK K
            try simp only [Act.put, List.getElem_toArray, List.getElem_cons_succ, List.getElem_cons_zero, List.setIfInBounds_toArray, List.set_cons_zero, List.set_cons_succ]
            refine wpAnyH_ready (rs := [16]) (by kernel_rfl) (by simp) ?_
            refine AllReadyH.cons rfl (fun K hK => ?_) AllReadyH.nil
            have z0 : q6.cell? ⟨g14, 0, none⟩ = some (.int .i64 0) := HA14_6.out.cell 0
            have z1 : q6.cell? ⟨g14, 1, none⟩ = some (.slice none 0 0) := HA14_6.out.cell 1
            have z2 : q6.cell? ⟨g14, 2, none⟩ = some (.slice none 0 0) := HA14_6.out.cell 2
            have f0 := HA14_6.out.free 0
            have f1 := HA14_6.out.free 1
            have f2 := HA14_6.out.free 2
            have HA14_7 := Lib.hid (st3_blk HA14_6.out rfl (.int .i64 1) (.slice pw nw cw) (.slice none 0 0))
            have HA13_7 := Lib.hid (blk_st3 (g := g14) HA13_6.out (Nat.ne_of_lt HNE.out) (.int .i64 1) (.slice pw nw cw) (.slice none 0 0))
            have HRV_7 := Lib.hid (row_st3N HRV_6.out HNV14.out (.int .i64 1) (.slice pw nw cw) (.slice none 0 0))
            have HRW_7 := Lib.hid (row_st3N HRW_6.out HNW14.out (.int .i64 1) (.slice pw nw cw) (.slice none 0 0))
            have HB7 := Lib.hid (st3_below (g := g14) HB6.out HG14.out (.int .i64 1) (.slice pw nw cw) (.slice none 0 0))
            unfold st3 at HA13_7 HA14_7 HRV_7 HRW_7 HB7
            go_simp
            generalize (((q6.setCell ⟨g14, 0, none⟩ (.int .i64 1)).setCell ⟨g14, 1, none⟩ (.slice pw nw cw)).setCell ⟨g14, 2, none⟩ (.slice none 0 0)) = q7 at *
            clear z0 z1 z2 f0 f1 f2
            refine hK.out _ _ (HS.out q7 HB7.out) (fun hS => ?_)
            clear hK K
            try simp only [Act.put, List.getElem_toArray, List.getElem_cons_succ, List.getElem_cons_zero, List.setIfInBounds_toArray, List.set_cons_zero, List.set_cons_succ]
            refine wpAnyH_take (i := 17) (v := ?_) rfl (by kernel_rfl) (by kernel_rfl) (by kernel_rfl) (fun _ _ _ h => h) (Or.inl ⟨by kernel_rfl, ?_⟩) (by first | assumption | trivial) ?_
            rotate_left
            · intro w hSw
              try dsimp only at hSw
              first | (go_simp; done) | (go_simp; with_reducible rfl)
            try simp only [Act.put, List.getElem_toArray, List.getElem_cons_succ, List.getElem_cons_zero, List.setIfInBounds_toArray, List.set_cons_zero, List.set_cons_succ]
            refine wpAnyH_done (by kernel_rfl) ?_ _
            go_wp2_with fail
            go_meet
            case rel => exact ⟨g13, g14, pv, nv, cv, pw, nw, cw, rfl, rfl, rfl, HA13_7.out, HA14_7.out, HRV_7.out, HRW_7.out, HLV.out, HLW.out, HB7.out⟩
        · skip
          go_simp
          have hb := oneB q2 (.cells #[.int .i64 0, .slice none 0 0, .slice none 0 0] 26)
          have HB3 := Lib.hid (HB2.out.trans (hb.mono HB2.out.size))
          have HA14_3 := Lib.hid (Blk.new q2 #[.int .i64 0, .slice none 0 0, .slice none 0 0] 26)
          have HG14 : Hid (WB.heap.size ≤ q2.heap.size) := HB2.out.size
          have HA13_3 := Lib.hid (HA13_2.out.below hb HA13_2.out.lt)
          have HR3_3 := Lib.hid (HR3_2.out.kept hb)
          have HNE : Hid (g13 < q2.heap.size) := HA13_2.out.lt
          clear hb
          generalize q2.alloc (.cells #[.int .i64 0, .slice none 0 0, .slice none 0 0] 26) = q3 at *
          generalize q2.heap.size = g14 at *
          refine hK.out _ _ (HS.out q3 HB3.out) (fun hS => ?_)
          clear hK K
          try simp only [Act.put, List.getElem_toArray, List.getElem_cons_succ, List.getElem_cons_zero, List.setIfInBounds_toArray, List.set_cons_zero, List.set_cons_succ]
          refine wpAnyH_ready (rs := [7]) (by kernel_rfl) (by simp) ?_
          refine AllReadyH.cons rfl (fun K hK => ?_) AllReadyH.nil
          go_simp
          go_at_call 20
          refine (HKEEPY.out q3 HB3.out).mono ?_
          rintro y q4 ⟨vv7, rfl, ho7, hb⟩
          have HB4 := Lib.hid (HB3.out.trans (hb.mono HB3.out.size))
          obtain ⟨pk7, ck7, hv7⟩ := ho7.form
          generalize hk7 : (keepL cur Y).length = nk7 at hv7
          subst hv7
          have HR7_4 := Lib.hid ho7.row
          have HA13_4 := Lib.hid (HA13_3.out.below hb HA13_3.out.lt)
          have HR3_4 := Lib.hid (HR3_3.out.kept hb)
          have HA14_4 := Lib.hid (HA14_3.out.below hb HA14_3.out.lt)
          clear hb ho7 hk7
          try go_wp2_with fail
          refine hK.out _ _ (HS.out q4 HB4.out) (fun hS => ?_)
          clear hK K
          try simp only [Act.put, List.getElem_toArray, List.getElem_cons_succ, List.getElem_cons_zero, List.setIfInBounds_toArray, List.set_cons_zero, List.set_cons_succ]
          refine wpAnyH_ready (rs := [8]) (by kernel_rfl) (by simp) ?_
          refine AllReadyH.cons rfl (fun K hK => ?_) AllReadyH.nil
          go_simp
          go_at_call 9
          refine (HTW2.out q4 _ _ HR3_4.out HR7_4.out).mono ?_
          rintro y q5 ⟨pv, nv, cv, pw, nw, cw, rfl, hrv, hlv, hrw, hlw, hb, hov, how⟩
          have HB5 := Lib.hid (HB4.out.trans (hb.mono HB4.out.size))
          have HA13_5 := Lib.hid (HA13_4.out.below hb HA13_4.out.lt)
          have HR3_5 := Lib.hid (HR3_4.out.kept hb)
          have HA14_5 := Lib.hid (HA14_4.out.below hb HA14_4.out.lt)
          have HR7_5 := Lib.hid (HR7_4.out.kept hb)
          have HRV_5 := Lib.hid hrv
          have HRW_5 := Lib.hid hrw
          have HLV := Lib.hid hlv
          have HLW := Lib.hid hlw
          have HNV13 : Hid (NeB (.slice pv nv cv) (keepL cur X) g13) := .inr (fun k hk => by have := hov k hk; have := HA13_4.out.lt; omega)
          have HNW13 : Hid (NeB (.slice pw nw cw) (keepL cur Y) g13) := .inr (fun k hk => by have := how k hk; have := HA13_4.out.lt; omega)
          have HNV14 : Hid (NeB (.slice pv nv cv) (keepL cur X) g14) := .inr (fun k hk => by have := hov k hk; have := HA14_4.out.lt; omega)
          have HNW14 : Hid (NeB (.slice pw nw cw) (keepL cur Y) g14) := .inr (fun k hk => by have := how k hk; have := HA14_4.out.lt; omega)
          clear hrv hlv hrw hlw hb hov how
          try go_wp2_with fail
          refine hK.out _ _ (HS.out q5 HB5.out) (fun hS => ?_)
          clear hK K
          try simp only [Act.put, List.getElem_toArray, List.getElem_cons_succ, List.getElem_cons_zero, List.setIfInBounds_toArray, List.set_cons_zero, List.set_cons_succ]
          refine wpAnyH_take (i := 9) (v := ?_) rfl (by kernel_rfl) (by kernel_rfl) (by kernel_rfl) (fun _ _ _ h => h) (Or.inl ⟨by kernel_rfl, ?_⟩) (by first | assumption | trivial) ?_
          rotate_left
          · intro w hSw
            try dsimp only at hSw
            first | (go_simp; done) | (go_simp; with_reducible rfl)
          try simp only [Act.put, List.getElem_toArray, List.getElem_cons_succ, List.getElem_cons_zero, List.setIfInBounds_toArray, List.set_cons_zero, List.set_cons_succ]
          refine wpAnyH_take (i := 10) (v := ?_) rfl (by kernel_rfl) (by kernel_rfl) (by kernel_rfl) (fun _ _ _ h => h) (Or.inl ⟨by kernel_rfl, ?_⟩) (by first | assumption | trivial) ?_
          rotate_left
          · intro w hSw
            try dsimp only at hSw
            first | (go_simp; done) | (go_simp; with_reducible rfl)
          try simp only [Act.put, List.getElem_toArray, List.getElem_cons_succ, List.getElem_cons_zero, List.setIfInBounds_toArray, List.set_cons_zero, List.set_cons_succ]
          refine wpAnyH_take (i := 11) (v := ?_) rfl (by kernel_rfl) (by kernel_rfl) (by kernel_rfl) (fun _ _ _ h => h) (Or.inl ⟨by kernel_rfl, ?_⟩) (by first | assumption | trivial) ?_
          rotate_left
          · intro w hSw
            try dsimp only at hSw
            first | (go_simp; done) | (go_simp; with_reducible rfl)
          try simp only [Act.put, List.getElem_toArray, List.getElem_cons_succ, List.getElem_cons_zero, List.setIfInBounds_toArray, List.set_cons_zero, List.set_cons_succ]
          refine wpAnyH_take (i := 12) (v := ?_) rfl (by kernel_rfl) (by kernel_rfl) (by kernel_rfl) (fun _ _ _ h => h) (Or.inl ⟨by kernel_rfl, ?_⟩) (by first | assumption | trivial) ?_
          rotate_left
          · intro w hSw
            try dsimp only at hSw
            first | (go_simp; done) | (go_simp; with_reducible rfl)
          try simp only [Act.put, List.getElem_toArray, List.getElem_cons_succ, List.getElem_cons_zero, List.setIfInBounds_toArray, List.set_cons_zero, List.set_cons_succ]
          refine wpAnyH_ready (rs := [15]) (by kernel_rfl) (by simp) ?_
          refine AllReadyH.cons rfl (fun K hK => ?_) AllReadyH.nil
          have z0 : q5.cell? ⟨g13, 0, none⟩ = some (.int .i64 0) := HA13_5.out.cell 0
          have z1 : q5.cell? ⟨g13, 1, none⟩ = some (.slice none 0 0) := HA13_5.out.cell 1
          have z2 : q5.cell? ⟨g13, 2, none⟩ = some (.slice none 0 0) := HA13_5.out.cell 2
          have f0 := HA13_5.out.free 0
          have f1 := HA13_5.out.free 1
          have f2 := HA13_5.out.free 2
          have HA13_6 := Lib.hid (st3_blk HA13_5.out rfl (.int .i64 0) (.slice pv nv cv) (.slice none 0 0))
          have HA14_6 := Lib.hid (blk_st3 (g := g13) HA14_5.out (Nat.ne_of_gt HNE.out) (.int .i64 0) (.slice pv nv cv) (.slice none 0 0))
          have HRV_6 := Lib.hid (row_st3N HRV_5.out HNV13.out (.int .i64 0) (.slice pv nv cv) (.slice none 0 0))
          have HRW_6 := Lib.hid (row_st3N HRW_5.out HNW13.out (.int .i64 0) (.slice pv nv cv) (.slice none 0 0))
          have HB6 := Lib.hid (st3_below (g := g13) HB5.out HG13.out (.int .i64 0) (.slice pv nv cv) (.slice none 0 0))
          unfold st3 at HA13_6 HA14_6 HRV_6 HRW_6 HB6
          go_simp
          generalize (((q5.setCell ⟨g13, 0, none⟩ (.int .i64 0)).setCell ⟨g13, 1, none⟩ (.slice pv nv cv)).setCell ⟨g13, 2, none⟩ (.slice none 0 0)) = q6 at *
          clear z0 z1 z2 f0 f1 f2
          refine hK.out _ _ (HS.out q6 HB6.out) (fun hS => ?_)
          clear hK K
          try simp only [Act.put, List.getElem_toArray, List.getElem_cons_succ, List.getElem_cons_zero, List.setIfInBounds_toArray, List.set_cons_zero, List.set_cons_succ]
          refine wpAnyH_ready (rs := [16]) (by kernel_rfl) (by simp) ?_
          refine AllReadyH.cons rfl (fun K hK => ?_) AllReadyH.nil
          have z0 : q6.cell? ⟨g14, 0, none⟩ = some (.int .i64 0) := HA14_6.out.cell 0
          have z1 : q6.cell? ⟨g14, 1, none⟩ = some (.slice none 0 0) := HA14_6.out.cell 1
          have z2 : q6.cell? ⟨g14, 2, none⟩ = some (.slice none 0 0) := HA14_6.out.cell 2
          have f0 := HA14_6.out.free 0
          have f1 := HA14_6.out.free 1
          have f2 := HA14_6.out.free 2
          have HA14_7 := Lib.hid (st3_blk HA14_6.out rfl (.int .i64 1) (.slice pw nw cw) (.slice none 0 0))
          have HA13_7 := Lib.hid (blk_st3 (g := g14) HA13_6.out (Nat.ne_of_lt HNE.out) (.int .i64 1) (.slice pw nw cw) (.slice none 0 0))
          have HRV_7 := Lib.hid (row_st3N HRV_6.out HNV14.out (.int .i64 1) (.slice pw nw cw) (.slice none 0 0))
          have HRW_7 := Lib.hid (row_st3N HRW_6.out HNW14.out (.int .i64 1) (.slice pw nw cw) (.slice none 0 0))
          have HB7 := Lib.hid (st3_below (g := g14) HB6.out HG14.out (.int .i64 1) (.slice pw nw cw) (.slice none 0 0))
          unfold st3 at HA13_7 HA14_7 HRV_7 HRW_7 HB7
          go_simp
          generalize (((q6.setCell ⟨g14, 0, none⟩ (.int .i64 1)).setCell ⟨g14, 1, none⟩ (.slice pw nw cw)).setCell ⟨g14, 2, none⟩ (.slice none 0 0)) = q7 at *
          clear z0 z1 z2 f0 f1 f2
          refine hK.out _ _ (HS.out q7 HB7.out) (fun hS => ?_)
          clear hK K
          try simp only [Act.put, List.getElem_toArray, List.getElem_cons_succ, List.getElem_cons_zero, List.setIfInBounds_toArray, List.set_cons_zero, List.set_cons_succ]
          refine wpAnyH_take (i := 17) (v := ?_) rfl (by kernel_rfl) (by kernel_rfl) (by kernel_rfl) (fun _ _ _ h => h) (Or.inl ⟨by kernel_rfl, ?_⟩) (by first | assumption | trivial) ?_
          rotate_left
          · intro w hSw
            try dsimp only at hSw
            first | (go_simp; done) | (go_simp; with_reducible rfl)
          try simp only [Act.put, List.getElem_toArray, List.getElem_cons_succ, List.getElem_cons_zero, List.setIfInBounds_toArray, List.set_cons_zero, List.set_cons_succ]
          refine wpAnyH_done (by kernel_rfl) ?_ _
          go_wp2_with fail
          go_meet
          case rel => exact ⟨g13, g14, pv, nv, cv, pw, nw, cw, rfl, rfl, rfl, HA13_7.out, HA14_7.out, HRV_7.out, HRW_7.out, HLV.out, HLW.out, HB7.out⟩
      · skip
        go_simp
        have hb := oneB q1 (.cells #[.int .i64 0, .slice none 0 0, .slice none 0 0] 26)
        have HB2 := Lib.hid (HB1.out.trans (hb.mono HB1.out.size))
        have HA14_2 := Lib.hid (Blk.new q1 #[.int .i64 0, .slice none 0 0, .slice none 0 0] 26)
        have HG14 : Hid (WB.heap.size ≤ q1.heap.size) := HB1.out.size
        have HA13_2 := Lib.hid (HA13_1.out.below hb HA13_1.out.lt)
        have HNE : Hid (g13 < q1.heap.size) := HA13_1.out.lt
        clear hb
        generalize q1.alloc (.cells #[.int .i64 0, .slice none 0 0, .slice none 0 0] 26) = q2 at *
        generalize q1.heap.size = g14 at *
        refine hK.out _ _ (HS.out q2 HB2.out) (fun hS => ?_)
        clear hK K
        try simp only [Act.put, List.getElem_toArray, List.getElem_cons_succ, List.getElem_cons_zero, List.setIfInBounds_toArray, List.set_cons_zero, List.set_cons_succ]
        refine wpAnyH_ready (rs := [3]) (by kernel_rfl) (by simp) ?_
        refine AllReadyH.cons rfl (fun K hK => ?_) AllReadyH.nil
        go_simp
        go_at_call 20
        refine (HKEEPX.out q2 HB2.out).mono ?_
        rintro y q3 ⟨vv3, rfl, ho3, hb⟩
        have HB3 := Lib.hid (HB2.out.trans (hb.mono HB2.out.size))
        obtain ⟨pk3, ck3, hv3⟩ := ho3.form
        generalize hk3 : (keepL cur X).length = nk3 at hv3
        subst hv3
        have HR3_3 := Lib.hid ho3.row
        have HA13_3 := Lib.hid (HA13_2.out.below hb HA13_2.out.lt)
        have HA14_3 := Lib.hid (HA14_2.out.below hb HA14_2.out.lt)
        clear hb ho3 hk3
        try go_wp2_with fail
        refine hK.out _ _ (HS.out q3 HB3.out) (fun hS => ?_)
        clear hK K
        try simp only [Act.put, List.getElem_toArray, List.getElem_cons_succ, List.getElem_cons_zero, List.setIfInBounds_toArray, List.set_cons_zero, List.set_cons_succ]
        refine wpAnyH_ready (rs := [7]) (by kernel_rfl) (by simp) ?_
        refine AllReadyH.cons rfl (fun K hK => ?_) AllReadyH.nil
        go_simp
        go_at_call 20
        refine (HKEEPY.out q3 HB3.out).mono ?_
        rintro y q4 ⟨vv7, rfl, ho7, hb⟩
        have HB4 := Lib.hid (HB3.out.trans (hb.mono HB3.out.size))
        obtain ⟨pk7, ck7, hv7⟩ := ho7.form
        generalize hk7 : (keepL cur Y).length = nk7 at hv7
        subst hv7
        have HR7_4 := Lib.hid ho7.row
        have HA13_4 := Lib.hid (HA13_3.out.below hb HA13_3.out.lt)
        have HA14_4 := Lib.hid (HA14_3.out.below hb HA14_3.out.lt)
        have HR3_4 := Lib.hid (HR3_3.out.kept hb)
        clear hb ho7 hk7
        try go_wp2_with fail
        refine hK.out _ _ (HS.out q4 HB4.out) (fun hS => ?_)
        clear hK K
        try simp only [Act.put, List.getElem_toArray, List.getElem_cons_succ, List.getElem_cons_zero, List.setIfInBounds_toArray, List.set_cons_zero, List.set_cons_succ]
        refine wpAnyH_ready (rs := [8]) (by kernel_rfl) (by simp) ?_
        refine AllReadyH.cons rfl (fun K hK => ?_) AllReadyH.nil
        go_simp
        go_at_call 9
        refine (HTW2.out q4 _ _ HR3_4.out HR7_4.out).mono ?_
        rintro y q5 ⟨pv, nv, cv, pw, nw, cw, rfl, hrv, hlv, hrw, hlw, hb, hov, how⟩
        have HB5 := Lib.hid (HB4.out.trans (hb.mono HB4.out.size))
        have HA13_5 := Lib.hid (HA13_4.out.below hb HA13_4.out.lt)
        have HA14_5 := Lib.hid (HA14_4.out.below hb HA14_4.out.lt)
        have HR3_5 := Lib.hid (HR3_4.out.kept hb)
        have HR7_5 := Lib.hid (HR7_4.out.kept hb)
        have HRV_5 := Lib.hid hrv
        have HRW_5 := Lib.hid hrw
        have HLV := Lib.hid hlv
        have HLW := Lib.hid hlw
        have HNV13 : Hid (NeB (.slice pv nv cv) (keepL cur X) g13) := .inr (fun k hk => by have := hov k hk; have := HA13_4.out.lt; omega)
        have HNW13 : Hid (NeB (.slice pw nw cw) (keepL cur Y) g13) := .inr (fun k hk => by have := how k hk; have := HA13_4.out.lt; omega)
        have HNV14 : Hid (NeB (.slice pv nv cv) (keepL cur X) g14) := .inr (fun k hk => by have := hov k hk; have := HA14_4.out.lt; omega)
        have HNW14 : Hid (NeB (.slice pw nw cw) (keepL cur Y) g14) := .inr (fun k hk => by have := how k hk; have := HA14_4.out.lt; omega)
        clear hrv hlv hrw hlw hb hov how
        try go_wp2_with fail
        refine hK.out _ _ (HS.out q5 HB5.out) (fun hS => ?_)
        clear hK K
        try simp only [Act.put, List.getElem_toArray, List.getElem_cons_succ, List.getElem_cons_zero, List.setIfInBounds_toArray, List.set_cons_zero, List.set_cons_succ]
        refine wpAnyH_take (i := 9) (v := ?_) rfl (by kernel_rfl) (by kernel_rfl) (by kernel_rfl) (fun _ _ _ h => h) (Or.inl ⟨by kernel_rfl, ?_⟩) (by first | assumption | trivial) ?_
        rotate_left
        · intro w hSw
          try dsimp only at hSw
          first | (go_simp; done) | (go_simp; with_reducible rfl)
        try simp only [Act.put, List.getElem_toArray, List.getElem_cons_succ, List.getElem_cons_zero, List.setIfInBounds_toArray, List.set_cons_zero, List.set_cons_succ]
        refine wpAnyH_take (i := 10) (v := ?_) rfl (by kernel_rfl) (by kernel_rfl) (by kernel_rfl) (fun _ _ _ h => h) (Or.inl ⟨by kernel_rfl, ?_⟩) (by first | assumption | trivial) ?_
        rotate_left
        · intro w hSw
          try dsimp only at hSw
          first | (go_simp; done) | (go_simp; with_reducible rfl)
        try simp only [Act.put, List.getElem_toArray, List.getElem_cons_succ, List.getElem_cons_zero, List.setIfInBounds_toArray, List.set_cons_zero, List.set_cons_succ]
        refine wpAnyH_take (i := 11) (v := ?_) rfl (by kernel_rfl) (by kernel_rfl) (by kernel_rfl) (fun _ _ _ h => h) (Or.inl ⟨by kernel_rfl, ?_⟩) (by first | assumption | trivial) ?_
        rotate_left
        · intro w hSw
          try dsimp only at hSw
          first | (go_simp; done) | (go_simp; with_reducible rfl)
        try simp only [Act.put, List.getElem_toArray, List.getElem_cons_succ, List.getElem_cons_zero, List.setIfInBounds_toArray, List.set_cons_zero, List.set_cons_succ]
        refine wpAnyH_take (i := 12) (v := ?_) rfl (by kernel_rfl) (by kernel_rfl) (by kernel_rfl) (fun _ _ _ h => h) (Or.inl ⟨by kernel_rfl, ?_⟩) (by first | assumption | trivial) ?_
        rotate_left
        · intro w hSw
          try dsimp only at hSw
          first | (go_simp; done) | (go_simp; with_reducible rfl)
        try simp only [Act.put, List.getElem_toArray, List.getElem_cons_succ, List.getElem_cons_zero, List.setIfInBounds_toArray, List.set_cons_zero, List.set_cons_succ]
        refine wpAnyH_ready (rs := [15]) (by kernel_rfl) (by simp) ?_
        refine AllReadyH.cons rfl (fun K hK => ?_) AllReadyH.nil
        have z0 : q5.cell? ⟨g13, 0, none⟩ = some (.int .i64 0) := HA13_5.out.cell 0
        have z1 : q5.cell? ⟨g13, 1, none⟩ = some (.slice none 0 0) := HA13_5.out.cell 1
        have z2 : q5.cell? ⟨g13, 2, none⟩ = some (.slice none 0 0) := HA13_5.out.cell 2
        have f0 := HA13_5.out.free 0
        have f1 := HA13_5.out.free 1
        have f2 := HA13_5.out.free 2
        have HA13_6 := Lib.hid (st3_blk HA13_5.out rfl (.int .i64 0) (.slice pv nv cv) (.slice none 0 0))
        have HA14_6 := Lib.hid (blk_st3 (g := g13) HA14_5.out (Nat.ne_of_gt HNE.out) (.int .i64 0) (.slice pv nv cv) (.slice none 0 0))
        have HRV_6 := Lib.hid (row_st3N HRV_5.out HNV13.out (.int .i64 0) (.slice pv nv cv) (.slice none 0 0))
        have HRW_6 := Lib.hid (row_st3N HRW_5.out HNW13.out (.int .i64 0) (.slice pv nv cv) (.slice none 0 0))
        have HB6 := Lib.hid (st3_below (g := g13) HB5.out HG13.out (.int .i64 0) (.slice pv nv cv) (.slice none 0 0))
        unfold st3 at HA13_6 HA14_6 HRV_6 HRW_6 HB6
        go_simp
        generalize (((q5.setCell ⟨g13, 0, none⟩ (.int .i64 0)).setCell ⟨g13, 1, none⟩ (.slice pv nv cv)).setCell ⟨g13, 2, none⟩ (.slice none 0 0)) = q6 at *
        clear z0 z1 z2 f0 f1 f2
        refine hK.out _ _ (HS.out q6 HB6.out) (fun hS => ?_)
        clear hK K
        try simp only [Act.put, List.getElem_toArray, List.getElem_cons_succ, List.getElem_cons_zero, List.setIfInBounds_toArray, List.set_cons_zero, List.set_cons_succ]
        refine wpAnyH_ready (rs := [16]) (by kernel_rfl) (by simp) ?_
        refine AllReadyH.cons rfl (fun K hK => ?_) AllReadyH.nil
        have z0 : q6.cell? ⟨g14, 0, none⟩ = some (.int .i64 0) := HA14_6.out.cell 0
        have z1 : q6.cell? ⟨g14, 1, none⟩ = some (.slice none 0 0) := HA14_6.out.cell 1
        have z2 : q6.cell? ⟨g14, 2, none⟩ = some (.slice none 0 0) := HA14_6.out.cell 2
        have f0 := HA14_6.out.free 0
        have f1 := HA14_6.out.free 1
        have f2 := HA14_6.out.free 2
        have HA14_7 := Lib.hid (st3_blk HA14_6.out rfl (.int .i64 1) (.slice pw nw cw) (.slice none 0 0))
        have HA13_7 := Lib.hid (blk_st3 (g := g14) HA13_6.out (Nat.ne_of_lt HNE.out) (.int .i64 1) (.slice pw nw cw) (.slice none 0 0))
        have HRV_7 := Lib.hid (row_st3N HRV_6.out HNV14.out (.int .i64 1) (.slice pw nw cw) (.slice none 0 0))
        have HRW_7 := Lib.hid (row_st3N HRW_6.out HNW14.out (.int .i64 1) (.slice pw nw cw) (.slice none 0 0))
        have HB7 := Lib.hid (st3_below (g := g14) HB6.out HG14.out (.int .i64 1) (.slice pw nw cw) (.slice none 0 0))
        unfold st3 at HA13_7 HA14_7 HRV_7 HRW_7 HB7
        go_simp
        generalize (((q6.setCell ⟨g14, 0, none⟩ (.int .i64 1)).setCell ⟨g14, 1, none⟩ (.slice pw nw cw)).setCell ⟨g14, 2, none⟩ (.slice none 0 0)) = q7 at *
        clear z0 z1 z2 f0 f1 f2
        refine hK.out _ _ (HS.out q7 HB7.out) (fun hS => ?_)
        clear hK K
        try simp only [Act.put, List.getElem_toArray, List.getElem_cons_succ, List.getElem_cons_zero, List.setIfInBounds_toArray, List.set_cons_zero, List.set_cons_succ]
        refine wpAnyH_take (i := 17) (v := ?_) rfl (by kernel_rfl) (by kernel_rfl) (by kernel_rfl) (fun _ _ _ h => h) (Or.inl ⟨by kernel_rfl, ?_⟩) (by first | assumption | trivial) ?_
        rotate_left
        · intro w hSw
          try dsimp only at hSw
          first | (go_simp; done) | (go_simp; with_reducible rfl)
        try simp only [Act.put, List.getElem_toArray, List.getElem_cons_succ, List.getElem_cons_zero, List.setIfInBounds_toArray, List.set_cons_zero, List.set_cons_succ]
        refine wpAnyH_done (by kernel_rfl) ?_ _
        go_wp2_with fail
        go_meet
        case rel => exact ⟨g13, g14, pv, nv, cv, pw, nw, cw, rfl, rfl, rfl, HA13_7.out, HA14_7.out, HRV_7.out, HRW_7.out, HLV.out, HLW.out, HB7.out⟩
    · skip
      go_simp
      have hb := oneB q0 (.cells #[.int .i64 0, .slice none 0 0, .slice none 0 0] 26)
      have HB1 := Lib.hid (HB0.out.trans (hb.mono HB0.out.size))
      have HA14_1 := Lib.hid (Blk.new q0 #[.int .i64 0, .slice none 0 0, .slice none 0 0] 26)
      have HG14 : Hid (WB.heap.size ≤ q0.heap.size) := HB0.out.size
      clear hb
      generalize q0.alloc (.cells #[.int .i64 0, .slice none 0 0, .slice none 0 0] 26) = q1 at *
      generalize q0.heap.size = g14 at *
      refine hK.out _ _ (HS.out q1 HB1.out) (fun hS => ?_)
      clear hK K
      try simp only [Act.put, List.getElem_toArray, List.getElem_cons_succ, List.getElem_cons_zero, List.setIfInBounds_toArray, List.set_cons_zero, List.set_cons_succ]
      refine wpAnyH_ready (rs := [3, 13]) (by kernel_rfl) (by simp) ?_
      refine AllReadyH.cons rfl (fun K hK => ?_) (AllReadyH.cons rfl (fun K hK => ?_) AllReadyH.nil)
      · skip
        go_simp
        go_at_call 20
        refine (HKEEPX.out q1 HB1.out).mono ?_
        rintro y q2 ⟨vv3, rfl, ho3, hb⟩
        have HB2 := Lib.hid (HB1.out.trans (hb.mono HB1.out.size))
        obtain ⟨pk3, ck3, hv3⟩ := ho3.form
        generalize hk3 : (keepL cur X).length = nk3 at hv3
        subst hv3
        have HR3_2 := Lib.hid ho3.row
        have HA14_2 := Lib.hid (HA14_1.out.below hb HA14_1.out.lt)
        clear hb ho3 hk3
        try go_wp2_with fail
        refine hK.out _ _ (HS.out q2 HB2.out) (fun hS => ?_)
        clear hK K
        try simp only [Act.put, List.getElem_toArray, List.getElem_cons_succ, List.getElem_cons_zero, List.setIfInBounds_toArray, List.set_cons_zero, List.set_cons_succ]
        refine wpAnyH_ready (rs := [7, 13]) (by kernel_rfl) (by simp) ?_
        refine AllReadyH.cons rfl (fun K hK => ?_) (AllReadyH.cons rfl (fun K hK => ?_) AllReadyH.nil)
        · skip
          go_simp
          go_at_call 20
          refine (HKEEPY.out q2 HB2.out).mono ?_
          rintro y q3 ⟨vv7, rfl, ho7, hb⟩
          have HB3 := Lib.hid (HB2.out.trans (hb.mono HB2.out.size))
          obtain ⟨pk7, ck7, hv7⟩ := ho7.form
          generalize hk7 : (keepL cur Y).length = nk7 at hv7
          subst hv7
          have HR7_3 := Lib.hid ho7.row
          have HA14_3 := Lib.hid (HA14_2.out.below hb HA14_2.out.lt)
          have HR3_3 := Lib.hid (HR3_2.out.kept hb)
          clear hb ho7 hk7
          try go_wp2_with fail
          refine hK.out _ _ (HS.out q3 HB3.out) (fun hS => ?_)
          clear hK K
          try simp only [Act.put, List.getElem_toArray, List.getElem_cons_succ, List.getElem_cons_zero, List.setIfInBounds_toArray, List.set_cons_zero, List.set_cons_succ]
          refine wpAnyH_ready (rs := [8, 13]) (by kernel_rfl) (by simp) ?_
          refine AllReadyH.cons rfl (fun K hK => ?_) (AllReadyH.cons rfl (fun K hK => ?_) AllReadyH.nil)
          · skip
            go_simp
            go_at_call 9
            refine (HTW2.out q3 _ _ HR3_3.out HR7_3.out).mono ?_
            rintro y q4 ⟨pv, nv, cv, pw, nw, cw, rfl, hrv, hlv, hrw, hlw, hb, hov, how⟩
            have HB4 := Lib.hid (HB3.out.trans (hb.mono HB3.out.size))
            have HA14_4 := Lib.hid (HA14_3.out.below hb HA14_3.out.lt)
            have HR3_4 := Lib.hid (HR3_3.out.kept hb)
            have HR7_4 := Lib.hid (HR7_3.out.kept hb)
            have HRV_4 := Lib.hid hrv
            have HRW_4 := Lib.hid hrw
            have HLV := Lib.hid hlv
            have HLW := Lib.hid hlw
            have HNV14 : Hid (NeB (.slice pv nv cv) (keepL cur X) g14) := .inr (fun k hk => by have := hov k hk; have := HA14_3.out.lt; omega)
            have HNW14 : Hid (NeB (.slice pw nw cw) (keepL cur Y) g14) := .inr (fun k hk => by have := how k hk; have := HA14_3.out.lt; omega)
            clear hrv hlv hrw hlw hb hov how
            try go_wp2_with fail
            refine hK.out _ _ (HS.out q4 HB4.out) (fun hS => ?_)
            clear hK K
            try simp only [Act.put, List.getElem_toArray, List.getElem_cons_succ, List.getElem_cons_zero, List.setIfInBounds_toArray, List.set_cons_zero, List.set_cons_succ]
            refine wpAnyH_take (i := 9) (v := ?_) rfl (by kernel_rfl) (by kernel_rfl) (by kernel_rfl) (fun _ _ _ h => h) (Or.inl ⟨by kernel_rfl, ?_⟩) (by first | assumption | trivial) ?_
            rotate_left
            · intro w hSw
              try dsimp only at hSw
              first | (go_simp; done) | (go_simp; with_reducible rfl)
            try simp only [Act.put, List.getElem_toArray, List.getElem_cons_succ, List.getElem_cons_zero, List.setIfInBounds_toArray, List.set_cons_zero, List.set_cons_succ]
            refine wpAnyH_take (i := 10) (v := ?_) rfl (by kernel_rfl) (by kernel_rfl) (by kernel_rfl) (fun _ _ _ h => h) (Or.inl ⟨by kernel_rfl, ?_⟩) (by first | assumption | trivial) ?_
            rotate_left
            · intro w hSw
              try dsimp only at hSw
              first | (go_simp; done) | (go_simp; with_reducible rfl)
            try simp only [Act.put, List.getElem_toArray, List.getElem_cons_succ, List.getElem_cons_zero, List.setIfInBounds_toArray, List.set_cons_zero, List.set_cons_succ]
            refine wpAnyH_take (i := 11) (v := ?_) rfl (by kernel_rfl) (by kernel_rfl) (by kernel_rfl) (fun _ _ _ h => h) (Or.inl ⟨by kernel_rfl, ?_⟩) (by first | assumption | trivial) ?_
            rotate_left
            · intro w hSw
              try dsimp only at hSw
              first | (go_simp; done) | (go_simp; with_reducible rfl)
            try simp only [Act.put, List.getElem_toArray, List.getElem_cons_succ, List.getElem_cons_zero, List.setIfInBounds_toArray, List.set_cons_zero, List.set_cons_succ]
            refine wpAnyH_take (i := 12) (v := ?_) rfl (by kernel_rfl) (by kernel_rfl) (by kernel_rfl) (fun _ _ _ h => h) (Or.inl ⟨by kernel_rfl, ?_⟩) (by first | assumption | trivial) ?_
            rotate_left
            · intro w hSw
              try dsimp only at hSw
              first | (go_simp; done) | (go_simp; with_reducible rfl)
            try simp only [Act.put, List.getElem_toArray, List.getElem_cons_succ, List.getElem_cons_zero, List.setIfInBounds_toArray, List.set_cons_zero, List.set_cons_succ]
            refine wpAnyH_ready (rs := [13]) (by kernel_rfl) (by simp) ?_
            refine AllReadyH.cons rfl (fun K hK => ?_) AllReadyH.nil
            go_simp
            have hb := oneB q4 (.cells #[.int .i64 0, .slice none 0 0, .slice none 0 0] 26)
            have HB5 := Lib.hid (HB4.out.trans (hb.mono HB4.out.size))
            have HA13_5 := Lib.hid (Blk.new q4 #[.int .i64 0, .slice none 0 0, .slice none 0 0] 26)
            have HG13 : Hid (WB.heap.size ≤ q4.heap.size) := HB4.out.size
            have HA14_5 := Lib.hid (HA14_4.out.below hb HA14_4.out.lt)
            have HR3_5 := Lib.hid (HR3_4.out.kept hb)
            have HR7_5 := Lib.hid (HR7_4.out.kept hb)
            have HRV_5 := Lib.hid (HRV_4.out.kept hb)
            have HRW_5 := Lib.hid (HRW_4.out.kept hb)
            have HNE : Hid (g14 < q4.heap.size) := HA14_4.out.lt
            have HNV13 := Lib.hid HRV_4.out.ne_new
            have HNW13 := Lib.hid HRW_4.out.ne_new
            clear hb
            generalize q4.alloc (.cells #[.int .i64 0, .slice none 0 0, .slice none 0 0] 26) = q5 at *
            generalize q4.heap.size = g13 at *
            refine hK.out _ _ (HS.out q5 HB5.out) (fun hS => ?_)
            clear hK K
            try simp only [Act.put, List.getElem_toArray, List.getElem_cons_succ, List.getElem_cons_zero, List.setIfInBounds_toArray, List.set_cons_zero, List.set_cons_succ]
            refine wpAnyH_ready (rs := [15]) (by kernel_rfl) (by simp) ?_
            refine AllReadyH.cons rfl (fun K hK => ?_) AllReadyH.nil
            have z0 : q5.cell? ⟨g13, 0, none⟩ = some (.int .i64 0) := HA13_5.out.cell 0
            have z1 : q5.cell? ⟨g13, 1, none⟩ = some (.slice none 0 0) := HA13_5.out.cell 1
            have z2 : q5.cell? ⟨g13, 2, none⟩ = some (.slice none 0 0) := HA13_5.out.cell 2
            have f0 := HA13_5.out.free 0
            have f1 := HA13_5.out.free 1
            have f2 := HA13_5.out.free 2
            have HA13_6 := Lib.hid (st3_blk HA13_5.out rfl (.int .i64 0) (.slice pv nv cv) (.slice none 0 0))
            have HA14_6 := Lib.hid (blk_st3 (g := g13) HA14_5.out (Nat.ne_of_lt HNE.out) (.int .i64 0) (.slice pv nv cv) (.slice none 0 0))
            have HRV_6 := Lib.hid (row_st3N HRV_5.out HNV13.out (.int .i64 0) (.slice pv nv cv) (.slice none 0 0))
            have HRW_6 := Lib.hid (row_st3N HRW_5.out HNW13.out (.int .i64 0) (.slice pv nv cv) (.slice none 0 0))
            have HB6 := Lib.hid (st3_below (g := g13) HB5.out HG13.out (.int .i64 0) (.slice pv nv cv) (.slice none 0 0))
            unfold st3 at HA13_6 HA14_6 HRV_6 HRW_6 HB6
            go_simp
            generalize (((q5.setCell ⟨g13, 0, none⟩ (.int .i64 0)).setCell ⟨g13, 1, none⟩ (.slice pv nv cv)).setCell ⟨g13, 2, none⟩ (.slice none 0 0)) = q6 at *
            clear z0 z1 z2 f0 f1 f2
            refine hK.out _ _ (HS.out q6 HB6.out) (fun hS => ?_)
            clear hK K
            try simp only [Act.put, List.getElem_toArray, List.getElem_cons_succ, List.getElem_cons_zero, List.setIfInBounds_toArray, List.set_cons_zero, List.set_cons_succ]
            refine wpAnyH_ready (rs := [16]) (by kernel_rfl) (by simp) ?_
            refine AllReadyH.cons rfl (fun K hK => ?_) AllReadyH.nil
            have z0 : q6.cell? ⟨g14, 0, none⟩ = some (.int .i64 0) := HA14_6.out.cell 0
            have z1 : q6.cell? ⟨g14, 1, none⟩ = some (.slice none 0 0) := HA14_6.out.cell 1
            have z2 : q6.cell? ⟨g14, 2, none⟩ = some (.slice none 0 0) := HA14_6.out.cell 2
            have f0 := HA14_6.out.free 0
            have f1 := HA14_6.out.free 1
            have f2 := HA14_6.out.free 2
            have HA14_7 := Lib.hid (st3_blk HA14_6.out rfl (.int .i64 1) (.slice pw nw cw) (.slice none 0 0))
            have HA13_7 := Lib.hid (blk_st3 (g := g14) HA13_6.out (Nat.ne_of_gt HNE.out) (.int .i64 1) (.slice pw nw cw) (.slice none 0 0))
            have HRV_7 := Lib.hid (row_st3N HRV_6.out HNV14.out (.int .i64 1) (.slice pw nw cw) (.slice none 0 0))
            have HRW_7 := Lib.hid (row_st3N HRW_6.out HNW14.out (.int .i64 1) (.slice pw nw cw) (.slice none 0 0))
            have HB7 := Lib.hid (st3_below (g := g14) HB6.out HG14.out (.int .i64 1) (.slice pw nw cw) (.slice none 0 0))
            unfold st3 at HA13_7 HA14_7 HRV_7 HRW_7 HB7
            go_simp
            generalize (((q6.setCell ⟨g14, 0, none⟩ (.int .i64 1)).setCell ⟨g14, 1, none⟩ (.slice pw nw cw)).setCell ⟨g14, 2, none⟩ (.slice none 0 0)) = q7 at *
            clear z0 z1 z2 f0 f1 f2
            refine hK.out _ _ (HS.out q7 HB7.out) (fun hS => ?_)
            clear hK K
            try simp only [Act.put, List.getElem_toArray, List.getElem_cons_succ, List.getElem_cons_zero, List.setIfInBounds_toArray, List.set_cons_zero, List.set_cons_succ]
            refine wpAnyH_take (i := 17) (v := ?_) rfl (by kernel_rfl) (by kernel_rfl) (by kernel_rfl) (fun _ _ _ h => h) (Or.inl ⟨by kernel_rfl, ?_⟩) (by first | assumption | trivial) ?_
            rotate_left
            · intro w hSw
              try dsimp only at hSw
              first | (go_simp; done) | (go_simp; with_reducible rfl)
            try simp only [Act.put, List.getElem_toArray, List.getElem_cons_succ, List.getElem_cons_zero, List.setIfInBounds_toArray, List.set_cons_zero, List.set_cons_succ]
            refine wpAnyH_done (by kernel_rfl) ?_ _
            go_wp2_with fail
            go_meet
            case rel => exact ⟨g13, g14, pv, nv, cv, pw, nw, cw, rfl, rfl, rfl, HA13_7.out, HA14_7.out, HRV_7.out, HRW_7.out, HLV.out, HLW.out, HB7.out⟩
          · skip
            go_simp
            have hb := oneB q3 (.cells #[.int .i64 0, .slice none 0 0, .slice none 0 0] 26)
            have HB4 := Lib.hid (HB3.out.trans (hb.mono HB3.out.size))
            have HA13_4 := Lib.hid (Blk.new q3 #[.int .i64 0, .slice none 0 0, .slice none 0 0] 26)
            have HG13 : Hid (WB.heap.size ≤ q3.heap.size) := HB3.out.size
            have HA14_4 := Lib.hid (HA14_3.out.below hb HA14_3.out.lt)
            have HR3_4 := Lib.hid (HR3_3.out.kept hb)
            have HR7_4 := Lib.hid (HR7_3.out.kept hb)
            have HNE : Hid (g14 < q3.heap.size) := HA14_3.out.lt
            clear hb
            generalize q3.alloc (.cells #[.int .i64 0, .slice none 0 0, .slice none 0 0] 26) = q4 at *
            generalize q3.heap.size = g13 at *
            refine hK.out _ _ (HS.out q4 HB4.out) (fun hS => ?_)
            clear hK K
            try simp only [Act.put, List.getElem_toArray, List.getElem_cons_succ, List.getElem_cons_zero, List.setIfInBounds_toArray, List.set_cons_zero, List.set_cons_succ]
            refine wpAnyH_ready (rs := [8]) (by kernel_rfl) (by simp) ?_
            refine AllReadyH.cons rfl (fun K hK => ?_) AllReadyH.nil
            go_simp
            go_at_call 9
            refine (HTW2.out q4 _ _ HR3_4.out HR7_4.out).mono ?_
            rintro y q5 ⟨pv, nv, cv, pw, nw, cw, rfl, hrv, hlv, hrw, hlw, hb, hov, how⟩
            have HB5 := Lib.hid (HB4.out.trans (hb.mono HB4.out.size))
            have HA14_5 := Lib.hid (HA14_4.out.below hb HA14_4.out.lt)
            have HR3_5 := Lib.hid (HR3_4.out.kept hb)
            have HR7_5 := Lib.hid (HR7_4.out.kept hb)
            have HA13_5 := Lib.hid (HA13_4.out.below hb HA13_4.out.lt)
            have HRV_5 := Lib.hid hrv
            have HRW_5 := Lib.hid hrw
            have HLV := Lib.hid hlv
            have HLW := Lib.hid hlw
            have HNV14 : Hid (NeB (.slice pv nv cv) (keepL cur X) g14) := .inr (fun k hk => by have := hov k hk; have := HA14_4.out.lt; omega)
            have HNW14 : Hid (NeB (.slice pw nw cw) (keepL cur Y) g14) := .inr (fun k hk => by have := how k hk; have := HA14_4.out.lt; omega)
            have HNV13 : Hid (NeB (.slice pv nv cv) (keepL cur X) g13) := .inr (fun k hk => by have := hov k hk; have := HA13_4.out.lt; omega)
            have HNW13 : Hid (NeB (.slice pw nw cw) (keepL cur Y) g13) := .inr (fun k hk => by have := how k hk; have := HA13_4.out.lt; omega)
            clear hrv hlv hrw hlw hb hov how
            try go_wp2_with fail
            refine hK.out _ _ (HS.out q5 HB5.out) (fun hS => ?_)
            clear hK K
            try simp only [Act.put, List.getElem_toArray, List.getElem_cons_succ, List.getElem_cons_zero, List.setIfInBounds_toArray, List.set_cons_zero, List.set_cons_succ]
            refine wpAnyH_take (i := 9) (v := ?_) rfl (by kernel_rfl) (by kernel_rfl) (by kernel_rfl) (fun _ _ _ h => h) (Or.inl ⟨by kernel_rfl, ?_⟩) (by first | assumption | trivial) ?_
            rotate_left
            · intro w hSw
              try dsimp only at hSw
              first | (go_simp; done) | (go_simp; with_reducible rfl)
            try simp only [Act.put, List.getElem_toArray, List.getElem_cons_succ, List.getElem_cons_zero, List.setIfInBounds_toArray, List.set_cons_zero, List.set_cons_succ]
            refine wpAnyH_take (i := 10) (v := ?_) rfl (by kernel_rfl) (by kernel_rfl) (by kernel_rfl) (fun _ _ _ h => h) (Or.inl ⟨by kernel_rfl, ?_⟩) (by first | assumption | trivial) ?_
            rotate_left
            · intro w hSw
              try dsimp only at hSw
              first | (go_simp; done) | (go_simp; with_reducible rfl)
            try simp only [Act.put, List.getElem_toArray, List.getElem_cons_succ, List.getElem_cons_zero, List.setIfInBounds_toArray, List.set_cons_zero, List.set_cons_succ]
            refine wpAnyH_take (i := 11) (v := ?_) rfl (by kernel_rfl) (by kernel_rfl) (by kernel_rfl) (fun _ _ _ h => h) (Or.inl ⟨by kernel_rfl, ?_⟩) (by first | assumption | trivial) ?_
            rotate_left
            · intro w hSw
              try dsimp only at hSw
              first | (go_simp; done) | (go_simp; with_reducible rfl)
            try simp only [Act.put, List.getElem_toArray, List.getElem_cons_succ, List.getElem_cons_zero, List.setIfInBounds_toArray, List.set_cons_zero, List.set_cons_succ]
            refine wpAnyH_take (i := 12) (v := ?_) rfl (by kernel_rfl) (by kernel_rfl) (by kernel_rfl) (fun _ _ _ h => h) (Or.inl ⟨by kernel_rfl, ?_⟩) (by first | assumption | trivial) ?_
            rotate_left
            · intro w hSw
              try dsimp only at hSw
              first | (go_simp; done) | (go_simp; with_reducible rfl)
            try simp only [Act.put, List.getElem_toArray, List.getElem_cons_succ, List.getElem_cons_zero, List.setIfInBounds_toArray, List.set_cons_zero, List.set_cons_succ]
            refine wpAnyH_ready (rs := [15]) (by kernel_rfl) (by simp) ?_
            refine AllReadyH.cons rfl (fun K hK => ?_) AllReadyH.nil
            have z0 : q5.cell? ⟨g13, 0, none⟩ = some (.int .i64 0) := HA13_5.out.cell 0
            have z1 : q5.cell? ⟨g13, 1, none⟩ = some (.slice none 0 0) := HA13_5.out.cell 1
            have z2 : q5.cell? ⟨g13, 2, none⟩ = some (.slice none 0 0) := HA13_5.out.cell 2
            have f0 := HA13_5.out.free 0
            have f1 := HA13_5.out.free 1
            have f2 := HA13_5.out.free 2
            have HA13_6 := Lib.hid (st3_blk HA13_5.out rfl (.int .i64 0) (.slice pv nv cv) (.slice none 0 0))
            have HA14_6 := Lib.hid (blk_st3 (g := g13) HA14_5.out (Nat.ne_of_lt HNE.out) (.int .i64 0) (.slice pv nv cv) (.slice none 0 0))
            have HRV_6 := Lib.hid (row_st3N HRV_5.out HNV13.out (.int .i64 0) (.slice pv nv cv) (.slice none 0 0))
            have HRW_6 := Lib.hid (row_st3N HRW_5.out HNW13.out (.int .i64 0) (.slice pv nv cv) (.slice none 0 0))
            have HB6 := Lib.hid (st3_below (g := g13) HB5.out HG13.out (.int .i64 0) (.slice pv nv cv) (.slice none 0 0))
            unfold st3 at HA13_6 HA14_6 HRV_6 HRW_6 HB6
            go_simp
            generalize (((q5.setCell ⟨g13, 0, none⟩ (.int .i64 0)).setCell ⟨g13, 1, none⟩ (.slice pv nv cv)).setCell ⟨g13, 2, none⟩ (.slice none 0 0)) = q6 at *
            clear z0 z1 z2 f0 f1 f2
            refine hK.out _ _ (HS.out q6 HB6.out) (fun hS => ?_)
            clear hK K
            try simp only [Act.put, List.getElem_toArray, List.getElem_cons_succ, List.getElem_cons_zero, List.setIfInBounds_toArray, List.set_cons_zero, List.set_cons_succ]
            refine wpAnyH_ready (rs := [16]) (by kernel_rfl) (by simp) ?_
            refine AllReadyH.cons rfl (fun K hK => ?_) AllReadyH.nil
            have z0 : q6.cell? ⟨g14, 0, none⟩ = some (.int .i64 0) := HA14_6.out.cell 0
            have z1 : q6.cell? ⟨g14, 1, none⟩ = some (.slice none 0 0) := HA14_6.out.cell 1
            have z2 : q6.cell? ⟨g14, 2, none⟩ = some (.slice none 0 0) := HA14_6.out.cell 2
            have f0 := HA14_6.out.free 0
            have f1 := HA14_6.out.free 1
            have f2 := HA14_6.out.free 2
            have HA14_7 := Lib.hid (st3_blk HA14_6.out rfl (.int .i64 1) (.slice pw nw cw) (.slice none 0 0))
            have HA13_7 := Lib.hid (blk_st3 (g := g14) HA13_6.out (Nat.ne_of_gt HNE.out) (.int .i64 1) (.slice pw nw cw) (.slice none 0 0))
            have HRV_7 := Lib.hid (row_st3N HRV_6.out HNV14.out (.int .i64 1) (.slice pw nw cw) (.slice none 0 0))
            have HRW_7 := Lib.hid (row_st3N HRW_6.out HNW14.out (.int .i64 1) (.slice pw nw cw) (.slice none 0 0))
            have HB7 := Lib.hid (st3_below (g := g14) HB6.out HG14.out (.int .i64 1) (.slice pw nw cw) (.slice none 0 0))
            unfold st3 at HA13_7 HA14_7 HRV_7 HRW_7 HB7
            go_simp
            generalize (((q6.setCell ⟨g14, 0, none⟩ (.int .i64 1)).setCell ⟨g14, 1, none⟩ (.slice pw nw cw)).setCell ⟨g14, 2, none⟩ (.slice none 0 0)) = q7 at *
            clear z0 z1 z2 f0 f1 f2
            refine hK.out _ _ (HS.out q7 HB7.out) (fun hS => ?_)
            clear hK K
            try simp only [Act.put, List.getElem_toArray, List.getElem_cons_succ, List.getElem_cons_zero, List.setIfInBounds_toArray, List.set_cons_zero, List.set_cons_succ]
            refine wpAnyH_take (i := 17) (v := ?_) rfl (by kernel_rfl) (by kernel_rfl) (by kernel_rfl) (fun _ _ _ h => h) (Or.inl ⟨by kernel_rfl, ?_⟩) (by first | assumption | trivial) ?_
            rotate_left
            · intro w hSw
              try dsimp only at hSw
              first | (go_simp; done) | (go_simp; with_reducible rfl)
            try simp only [Act.put, List.getElem_toArray, List.getElem_cons_succ, List.getElem_cons_zero, List.setIfInBounds_toArray, List.set_cons_zero, List.set_cons_succ]
            refine wpAnyH_done (by kernel_rfl) ?_ _
            go_wp2_with fail
            go_meet
            case rel => exact ⟨g13, g14, pv, nv, cv, pw, nw, cw, rfl, rfl, rfl, HA13_7.out, HA14_7.out, HRV_7.out, HRW_7.out, HLV.out, HLW.out, HB7.out⟩
        · skip
          go_simp
          have hb := oneB q2 (.cells #[.int .i64 0, .slice none 0 0, .slice none 0 0] 26)
          have HB3 := Lib.hid (HB2.out.trans (hb.mono HB2.out.size))
          have HA13_3 := Lib.hid (Blk.new q2 #[.int .i64 0, .slice none 0 0, .slice none 0 0] 26)
          have HG13 : Hid (WB.heap.size ≤ q2.heap.size) := HB2.out.size
          have HA14_3 := Lib.hid (HA14_2.out.below hb HA14_2.out.lt)
          have HR3_3 := Lib.hid (HR3_2.out.kept hb)
          have HNE : Hid (g14 < q2.heap.size) := HA14_2.out.lt
          clear hb
          generalize q2.alloc (.cells #[.int .i64 0, .slice none 0 0, .slice none 0 0] 26) = q3 at *
          generalize q2.heap.size = g13 at *
          refine hK.out _ _ (HS.out q3 HB3.out) (fun hS => ?_)
          clear hK K
          try simp only [Act.put, List.getElem_toArray, List.getElem_cons_succ, List.getElem_cons_zero, List.setIfInBounds_toArray, List.set_cons_zero, List.set_cons_succ]
          refine wpAnyH_ready (rs := [7]) (by kernel_rfl) (by simp) ?_
          refine AllReadyH.cons rfl (fun K hK => ?_) AllReadyH.nil
          go_simp
          go_at_call 20
          refine (HKEEPY.out q3 HB3.out).mono ?_
          rintro y q4 ⟨vv7, rfl, ho7, hb⟩
          have HB4 := Lib.hid (HB3.out.trans (hb.mono HB3.out.size))
          obtain ⟨pk7, ck7, hv7⟩ := ho7.form
          generalize hk7 : (keepL cur Y).length = nk7 at hv7
          subst hv7
          have HR7_4 := Lib.hid ho7.row
          have HA14_4 := Lib.hid (HA14_3.out.below hb HA14_3.out.lt)
          have HR3_4 := Lib.hid (HR3_3.out.kept hb)
          have HA13_4 := Lib.hid (HA13_3.out.below hb HA13_3.out.lt)
          clear hb ho7 hk7
          try go_wp2_with fail
          refine hK.out _ _ (HS.out q4 HB4.out) (fun hS => ?_)
          clear hK K
          try simp only [Act.put, List.getElem_toArray, List.getElem_cons_succ, List.getElem_cons_zero, List.setIfInBounds_toArray, List.set_cons_zero, List.set_cons_succ]
          refine wpAnyH_ready (rs := [8]) (by kernel_rfl) (by simp) ?_
          refine AllReadyH.cons rfl (fun K hK => ?_) AllReadyH.nil
          go_simp
          go_at_call 9
          refine (HTW2.out q4 _ _ HR3_4.out HR7_4.out).mono ?_
          rintro y q5 ⟨pv, nv, cv, pw, nw, cw, rfl, hrv, hlv, hrw, hlw, hb, hov, how⟩
          have HB5 := Lib.hid (HB4.out.trans (hb.mono HB4.out.size))
          have HA14_5 := Lib.hid (HA14_4.out.below hb HA14_4.out.lt)
          have HR3_5 := Lib.hid (HR3_4.out.kept hb)
          have HA13_5 := Lib.hid (HA13_4.out.below hb HA13_4.out.lt)
          have HR7_5 := Lib.hid (HR7_4.out.kept hb)
          have HRV_5 := Lib.hid hrv
          have HRW_5 := Lib.hid hrw
          have HLV := Lib.hid hlv
          have HLW := Lib.hid hlw
          have HNV14 : Hid (NeB (.slice pv nv cv) (keepL cur X) g14) := .inr (fun k hk => by have := hov k hk; have := HA14_4.out.lt; omega)
          have HNW14 : Hid (NeB (.slice pw nw cw) (keepL cur Y) g14) := .inr (fun k hk => by have := how k hk; have := HA14_4.out.lt; omega)
          have HNV13 : Hid (NeB (.slice pv nv cv) (keepL cur X) g13) := .inr (fun k hk => by have := hov k hk; have := HA13_4.out.lt; omega)
          have HNW13 : Hid (NeB (.slice pw nw cw) (keepL cur Y) g13) := .inr (fun k hk => by have := how k hk; have := HA13_4.out.lt; omega)
          clear hrv hlv hrw hlw hb hov how
          try go_wp2_with fail
          refine hK.out _ _ (HS.out q5 HB5.out) (fun hS => ?_)
          clear hK K
          try simp only [Act.put, List.getElem_toArray, List.getElem_cons_succ, List.getElem_cons_zero, List.setIfInBounds_toArray, List.set_cons_zero, List.set_cons_succ]
          refine wpAnyH_take (i := 9) (v := ?_) rfl (by kernel_rfl) (by kernel_rfl) (by kernel_rfl) (fun _ _ _ h => h) (Or.inl ⟨by kernel_rfl, ?_⟩) (by first | assumption | trivial) ?_
          rotate_left
          · intro w hSw
            try dsimp only at hSw
            first | (go_simp; done) | (go_simp; with_reducible rfl)
          try simp only [Act.put, List.getElem_toArray, List.getElem_cons_succ, List.getElem_cons_zero, List.setIfInBounds_toArray, List.set_cons_zero, List.set_cons_succ]
          refine wpAnyH_take (i := 10) (v := ?_) rfl (by kernel_rfl) (by kernel_rfl) (by kernel_rfl) (fun _ _ _ h => h) (Or.inl ⟨by kernel_rfl, ?_⟩) (by first | assumption | trivial) ?_
          rotate_left
          · intro w hSw
            try dsimp only at hSw
            first | (go_simp; done) | (go_simp; with_reducible rfl)
          try simp only [Act.put, List.getElem_toArray, List.getElem_cons_succ, List.getElem_cons_zero, List.setIfInBounds_toArray, List.set_cons_zero, List.set_cons_succ]
          refine wpAnyH_take (i := 11) (v := ?_) rfl (by kernel_rfl) (by kernel_rfl) (by kernel_rfl) (fun _ _ _ h => h) (Or.inl ⟨by kernel_rfl, ?_⟩) (by first | assumption | trivial) ?_
          rotate_left
          · intro w hSw
            try dsimp only at hSw
            first | (go_simp; done) | (go_simp; with_reducible rfl)
          try simp only [Act.put, List.getElem_toArray, List.getElem_cons_succ, List.getElem_cons_zero, List.setIfInBounds_toArray, List.set_cons_zero, List.set_cons_succ]
          refine wpAnyH_take (i := 12) (v := ?_) rfl (by kernel_rfl) (by kernel_rfl) (by kernel_rfl) (fun _ _ _ h => h) (Or.inl ⟨by kernel_rfl, ?_⟩) (by first | assumption | trivial) ?_
          rotate_left
          · intro w hSw
            try dsimp only at hSw
            first | (go_simp; done) | (go_simp; with_reducible rfl)
          try simp only [Act.put, List.getElem_toArray, List.getElem_cons_succ, List.getElem_cons_zero, List.setIfInBounds_toArray, List.set_cons_zero, List.set_cons_succ]
          refine wpAnyH_ready (rs := [15]) (by kernel_rfl) (by simp) ?_
          refine AllReadyH.cons rfl (fun K hK => ?_) AllReadyH.nil
          have z0 : q5.cell? ⟨g13, 0, none⟩ = some (.int .i64 0) := HA13_5.out.cell 0
          have z1 : q5.cell? ⟨g13, 1, none⟩ = some (.slice none 0 0) := HA13_5.out.cell 1
          have z2 : q5.cell? ⟨g13, 2, none⟩ = some (.slice none 0 0) := HA13_5.out.cell 2
          have f0 := HA13_5.out.free 0
          have f1 := HA13_5.out.free 1
          have f2 := HA13_5.out.free 2
          have HA13_6 := Lib.hid (st3_blk HA13_5.out rfl (.int .i64 0) (.slice pv nv cv) (.slice none 0 0))
          have HA14_6 := Lib.hid (blk_st3 (g := g13) HA14_5.out (Nat.ne_of_lt HNE.out) (.int .i64 0) (.slice pv nv cv) (.slice none 0 0))
          have HRV_6 := Lib.hid (row_st3N HRV_5.out HNV13.out (.int .i64 0) (.slice pv nv cv) (.slice none 0 0))
          have HRW_6 := Lib.hid (row_st3N HRW_5.out HNW13.out (.int .i64 0) (.slice pv nv cv) (.slice none 0 0))
          have HB6 := Lib.hid (st3_below (g := g13) HB5.out HG13.out (.int .i64 0) (.slice pv nv cv) (.slice none 0 0))
          unfold st3 at HA13_6 HA14_6 HRV_6 HRW_6 HB6
          go_simp
          generalize (((q5.setCell ⟨g13, 0, none⟩ (.int .i64 0)).setCell ⟨g13, 1, none⟩ (.slice pv nv cv)).setCell ⟨g13, 2, none⟩ (.slice none 0 0)) = q6 at *
          clear z0 z1 z2 f0 f1 f2
          refine hK.out _ _ (HS.out q6 HB6.out) (fun hS => ?_)
          clear hK K
          try simp only [Act.put, List.getElem_toArray, List.getElem_cons_succ, List.getElem_cons_zero, List.setIfInBounds_toArray, List.set_cons_zero, List.set_cons_succ]
          refine wpAnyH_ready (rs := [16]) (by kernel_rfl) (by simp) ?_
          refine AllReadyH.cons rfl (fun K hK => ?_) AllReadyH.nil
          have z0 : q6.cell? ⟨g14, 0, none⟩ = some (.int .i64 0) := HA14_6.out.cell 0
          have z1 : q6.cell? ⟨g14, 1, none⟩ = some (.slice none 0 0) := HA14_6.out.cell 1
          have z2 : q6.cell? ⟨g14, 2, none⟩ = some (.slice none 0 0) := HA14_6.out.cell 2
          have f0 := HA14_6.out.free 0
          have f1 := HA14_6.out.free 1
          have f2 := HA14_6.out.free 2
          have HA14_7 := Lib.hid (st3_blk HA14_6.out rfl (.int .i64 1) (.slice pw nw cw) (.slice none 0 0))
          have HA13_7 := Lib.hid (blk_st3 (g := g14) HA13_6.out (Nat.ne_of_gt HNE.out) (.int .i64 1) (.slice pw nw cw) (.slice none 0 0))
          have HRV_7 := Lib.hid (row_st3N HRV_6.out HNV14.out (.int .i64 1) (.slice pw nw cw) (.slice none 0 0))
          have HRW_7 := Lib.hid (row_st3N HRW_6.out HNW14.out (.int .i64 1) (.slice pw nw cw) (.slice none 0 0))
          have HB7 := Lib.hid (st3_below (g := g14) HB6.out HG14.out (.int .i64 1) (.slice pw nw cw) (.slice none 0 0))
          unfold st3 at HA13_7 HA14_7 HRV_7 HRW_7 HB7
          go_simp
          generalize (((q6.setCell ⟨g14, 0, none⟩ (.int .i64 1)).setCell ⟨g14, 1, none⟩ (.slice pw nw cw)).setCell ⟨g14, 2, none⟩ (.slice none 0 0)) = q7 at *
          clear z0 z1 z2 f0 f1 f2
          refine hK.out _ _ (HS.out q7 HB7.out) (fun hS => ?_)
          clear hK K
          try simp only [Act.put, List.getElem_toArray, List.getElem_cons_succ, List.getElem_cons_zero, List.setIfInBounds_toArray, List.set_cons_zero, List.set_cons_succ]
          refine wpAnyH_take (i := 17) (v := ?_) rfl (by kernel_rfl) (by kernel_rfl) (by kernel_rfl) (fun _ _ _ h => h) (Or.inl ⟨by kernel_rfl, ?_⟩) (by first | assumption | trivial) ?_
          rotate_left
          · intro w hSw
            try dsimp only at hSw
            first | (go_simp; done) | (go_simp; with_reducible rfl)
          try simp only [Act.put, List.getElem_toArray, List.getElem_cons_succ, List.getElem_cons_zero, List.setIfInBounds_toArray, List.set_cons_zero, List.set_cons_succ]
          refine wpAnyH_done (by kernel_rfl) ?_ _
          go_wp2_with fail
          go_meet
          case rel => exact ⟨g13, g14, pv, nv, cv, pw, nw, cw, rfl, rfl, rfl, HA13_7.out, HA14_7.out, HRV_7.out, HRW_7.out, HLV.out, HLW.out, HB7.out⟩
      · skip
        go_simp
        have hb := oneB q1 (.cells #[.int .i64 0, .slice none 0 0, .slice none 0 0] 26)
        have HB2 := Lib.hid (HB1.out.trans (hb.mono HB1.out.size))
        have HA13_2 := Lib.hid (Blk.new q1 #[.int .i64 0, .slice none 0 0, .slice none 0 0] 26)
        have HG13 : Hid (WB.heap.size ≤ q1.heap.size) := HB1.out.size
        have HA14_2 := Lib.hid (HA14_1.out.below hb HA14_1.out.lt)
        have HNE : Hid (g14 < q1.heap.size) := HA14_1.out.lt
        clear hb
        generalize q1.alloc (.cells #[.int .i64 0, .slice none 0 0, .slice none 0 0] 26) = q2 at *
        generalize q1.heap.size = g13 at *
        refine hK.out _ _ (HS.out q2 HB2.out) (fun hS => ?_)
        clear hK K
        try simp only [Act.put, List.getElem_toArray, List.getElem_cons_succ, List.getElem_cons_zero, List.setIfInBounds_toArray, List.set_cons_zero, List.set_cons_succ]
        refine wpAnyH_ready (rs := [3]) (by kernel_rfl) (by simp) ?_
        refine AllReadyH.cons rfl (fun K hK => ?_) AllReadyH.nil
        go_simp
        go_at_call 20
        refine (HKEEPX.out q2 HB2.out).mono ?_
        rintro y q3 ⟨vv3, rfl, ho3, hb⟩
        have HB3 := Lib.hid (HB2.out.trans (hb.mono HB2.out.size))
        obtain ⟨pk3, ck3, hv3⟩ := ho3.form
        generalize hk3 : (keepL cur X).length = nk3 at hv3
        subst hv3
        have HR3_3 := Lib.hid ho3.row
        have HA14_3 := Lib.hid (HA14_2.out.below hb HA14_2.out.lt)
        have HA13_3 := Lib.hid (HA13_2.out.below hb HA13_2.out.lt)
        clear hb ho3 hk3
        try go_wp2_with fail
        refine hK.out _ _ (HS.out q3 HB3.out) (fun hS => ?_)
        clear hK K
        try simp only [Act.put, List.getElem_toArray, List.getElem_cons_succ, List.getElem_cons_zero, List.setIfInBounds_toArray, List.set_cons_zero, List.set_cons_succ]
        refine wpAnyH_ready (rs := [7]) (by kernel_rfl) (by simp) ?_
        refine AllReadyH.cons rfl (fun K hK => ?_) AllReadyH.nil
        go_simp
        go_at_call 20
        refine (HKEEPY.out q3 HB3.out).mono ?_
        rintro y q4 ⟨vv7, rfl, ho7, hb⟩
        have HB4 := Lib.hid (HB3.out.trans (hb.mono HB3.out.size))
        obtain ⟨pk7, ck7, hv7⟩ := ho7.form
        generalize hk7 : (keepL cur Y).length = nk7 at hv7
        subst hv7
        have HR7_4 := Lib.hid ho7.row
        have HA14_4 := Lib.hid (HA14_3.out.below hb HA14_3.out.lt)
        have HA13_4 := Lib.hid (HA13_3.out.below hb HA13_3.out.lt)
        have HR3_4 := Lib.hid (HR3_3.out.kept hb)
        clear hb ho7 hk7
        try go_wp2_with fail
        refine hK.out _ _ (HS.out q4 HB4.out) (fun hS => ?_)
        clear hK K
        try simp only [Act.put, List.getElem_toArray, List.getElem_cons_succ, List.getElem_cons_zero, List.setIfInBounds_toArray, List.set_cons_zero, List.set_cons_succ]
        refine wpAnyH_ready (rs := [8]) (by kernel_rfl) (by simp) ?_
        refine AllReadyH.cons rfl (fun K hK => ?_) AllReadyH.nil
        go_simp
        go_at_call 9
        refine (HTW2.out q4 _ _ HR3_4.out HR7_4.out).mono ?_
        rintro y q5 ⟨pv, nv, cv, pw, nw, cw, rfl, hrv, hlv, hrw, hlw, hb, hov, how⟩
        have HB5 := Lib.hid (HB4.out.trans (hb.mono HB4.out.size))
        have HA14_5 := Lib.hid (HA14_4.out.below hb HA14_4.out.lt)
        have HA13_5 := Lib.hid (HA13_4.out.below hb HA13_4.out.lt)
        have HR3_5 := Lib.hid (HR3_4.out.kept hb)
        have HR7_5 := Lib.hid (HR7_4.out.kept hb)
        have HRV_5 := Lib.hid hrv
        have HRW_5 := Lib.hid hrw
        have HLV := Lib.hid hlv
        have HLW := Lib.hid hlw
        have HNV14 : Hid (NeB (.slice pv nv cv) (keepL cur X) g14) := .inr (fun k hk => by have := hov k hk; have := HA14_4.out.lt; omega)
        have HNW14 : Hid (NeB (.slice pw nw cw) (keepL cur Y) g14) := .inr (fun k hk => by have := how k hk; have := HA14_4.out.lt; omega)
        have HNV13 : Hid (NeB (.slice pv nv cv) (keepL cur X) g13) := .inr (fun k hk => by have := hov k hk; have := HA13_4.out.lt; omega)
        have HNW13 : Hid (NeB (.slice pw nw cw) (keepL cur Y) g13) := .inr (fun k hk => by have := how k hk; have := HA13_4.out.lt; omega)
        clear hrv hlv hrw hlw hb hov how
        try go_wp2_with fail
        refine hK.out _ _ (HS.out q5 HB5.out) (fun hS => ?_)
        clear hK K
        try simp only [Act.put, List.getElem_toArray, List.getElem_cons_succ, List.getElem_cons_zero, List.setIfInBounds_toArray, List.set_cons_zero, List.set_cons_succ]
        refine wpAnyH_take (i := 9) (v := ?_) rfl (by kernel_rfl) (by kernel_rfl) (by kernel_rfl) (fun _ _ _ h => h) (Or.inl ⟨by kernel_rfl, ?_⟩) (by first | assumption | trivial) ?_
        rotate_left
        · intro w hSw
          try dsimp only at hSw
          first | (go_simp; done) | (go_simp; with_reducible rfl)
        try simp only [Act.put, List.getElem_toArray, List.getElem_cons_succ, List.getElem_cons_zero, List.setIfInBounds_toArray, List.set_cons_zero, List.set_cons_succ]
        refine wpAnyH_take (i := 10) (v := ?_) rfl (by kernel_rfl) (by kernel_rfl) (by kernel_rfl) (fun _ _ _ h => h) (Or.inl ⟨by kernel_rfl, ?_⟩) (by first | assumption | trivial) ?_
        rotate_left
        · intro w hSw
          try dsimp only at hSw
          first | (go_simp; done) | (go_simp; with_reducible rfl)
        try simp only [Act.put, List.getElem_toArray, List.getElem_cons_succ, List.getElem_cons_zero, List.setIfInBounds_toArray, List.set_cons_zero, List.set_cons_succ]
        refine wpAnyH_take (i := 11) (v := ?_) rfl (by kernel_rfl) (by kernel_rfl) (by kernel_rfl) (fun _ _ _ h => h) (Or.inl ⟨by kernel_rfl, ?_⟩) (by first | assumption | trivial) ?_
        rotate_left
        · intro w hSw
          try dsimp only at hSw
          first | (go_simp; done) | (go_simp; with_reducible rfl)
        try simp only [Act.put, List.getElem_toArray, List.getElem_cons_succ, List.getElem_cons_zero, List.setIfInBounds_toArray, List.set_cons_zero, List.set_cons_succ]
        refine wpAnyH_take (i := 12) (v := ?_) rfl (by kernel_rfl) (by kernel_rfl) (by kernel_rfl) (fun _ _ _ h => h) (Or.inl ⟨by kernel_rfl, ?_⟩) (by first | assumption | trivial) ?_
        rotate_left
        · intro w hSw
          try dsimp only at hSw
          first | (go_simp; done) | (go_simp; with_reducible rfl)
        try simp only [Act.put, List.getElem_toArray, List.getElem_cons_succ, List.getElem_cons_zero, List.setIfInBounds_toArray, List.set_cons_zero, List.set_cons_succ]
        refine wpAnyH_ready (rs := [15]) (by kernel_rfl) (by simp) ?_
        refine AllReadyH.cons rfl (fun K hK => ?_) AllReadyH.nil
        have z0 : q5.cell? ⟨g13, 0, none⟩ = some (.int .i64 0) := HA13_5.out.cell 0
        have z1 : q5.cell? ⟨g13, 1, none⟩ = some (.slice none 0 0) := HA13_5.out.cell 1
        have z2 : q5.cell? ⟨g13, 2, none⟩ = some (.slice none 0 0) := HA13_5.out.cell 2
        have f0 := HA13_5.out.free 0
        have f1 := HA13_5.out.free 1
        have f2 := HA13_5.out.free 2
        have HA13_6 := Lib.hid (st3_blk HA13_5.out rfl (.int .i64 0) (.slice pv nv cv) (.slice none 0 0))
        have HA14_6 := Lib.hid (blk_st3 (g := g13) HA14_5.out (Nat.ne_of_lt HNE.out) (.int .i64 0) (.slice pv nv cv) (.slice none 0 0))
        have HRV_6 := Lib.hid (row_st3N HRV_5.out HNV13.out (.int .i64 0) (.slice pv nv cv) (.slice none 0 0))
        have HRW_6 := Lib.hid (row_st3N HRW_5.out HNW13.out (.int .i64 0) (.slice pv nv cv) (.slice none 0 0))
        have HB6 := Lib.hid (st3_below (g := g13) HB5.out HG13.out (.int .i64 0) (.slice pv nv cv) (.slice none 0 0))
        unfold st3 at HA13_6 HA14_6 HRV_6 HRW_6 HB6
        go_simp
        generalize (((q5.setCell ⟨g13, 0, none⟩ (.int .i64 0)).setCell ⟨g13, 1, none⟩ (.slice pv nv cv)).setCell ⟨g13, 2, none⟩ (.slice none 0 0)) = q6 at *
        clear z0 z1 z2 f0 f1 f2
        refine hK.out _ _ (HS.out q6 HB6.out) (fun hS => ?_)
        clear hK K
        try simp only [Act.put, List.getElem_toArray, List.getElem_cons_succ, List.getElem_cons_zero, List.setIfInBounds_toArray, List.set_cons_zero, List.set_cons_succ]
        refine wpAnyH_ready (rs := [16]) (by kernel_rfl) (by simp) ?_
        refine AllReadyH.cons rfl (fun K hK => ?_) AllReadyH.nil
        have z0 : q6.cell? ⟨g14, 0, none⟩ = some (.int .i64 0) := HA14_6.out.cell 0
        have z1 : q6.cell? ⟨g14, 1, none⟩ = some (.slice none 0 0) := HA14_6.out.cell 1
        have z2 : q6.cell? ⟨g14, 2, none⟩ = some (.slice none 0 0) := HA14_6.out.cell 2
        have f0 := HA14_6.out.free 0
        have f1 := HA14_6.out.free 1
        have f2 := HA14_6.out.free 2
        have HA14_7 := Lib.hid (st3_blk HA14_6.out rfl (.int .i64 1) (.slice pw nw cw) (.slice none 0 0))
        have HA13_7 := Lib.hid (blk_st3 (g := g14) HA13_6.out (Nat.ne_of_gt HNE.out) (.int .i64 1) (.slice pw nw cw) (.slice none 0 0))
        have HRV_7 := Lib.hid (row_st3N HRV_6.out HNV14.out (.int .i64 1) (.slice pw nw cw) (.slice none 0 0))
        have HRW_7 := Lib.hid (row_st3N HRW_6.out HNW14.out (.int .i64 1) (.slice pw nw cw) (.slice none 0 0))
        have HB7 := Lib.hid (st3_below (g := g14) HB6.out HG14.out (.int .i64 1) (.slice pw nw cw) (.slice none 0 0))
        unfold st3 at HA13_7 HA14_7 HRV_7 HRW_7 HB7
        go_simp
        generalize (((q6.setCell ⟨g14, 0, none⟩ (.int .i64 1)).setCell ⟨g14, 1, none⟩ (.slice pw nw cw)).setCell ⟨g14, 2, none⟩ (.slice none 0 0)) = q7 at *
        clear z0 z1 z2 f0 f1 f2
        refine hK.out _ _ (HS.out q7 HB7.out) (fun hS => ?_)
        clear hK K
        try simp only [Act.put, List.getElem_toArray, List.getElem_cons_succ, List.getElem_cons_zero, List.setIfInBounds_toArray, List.set_cons_zero, List.set_cons_succ]
        refine wpAnyH_take (i := 17) (v := ?_) rfl (by kernel_rfl) (by kernel_rfl) (by kernel_rfl) (fun _ _ _ h => h) (Or.inl ⟨by kernel_rfl, ?_⟩) (by first | assumption | trivial) ?_
        rotate_left
        · intro w hSw
          try dsimp only at hSw
          first | (go_simp; done) | (go_simp; with_reducible rfl)
        try simp only [Act.put, List.getElem_toArray, List.getElem_cons_succ, List.getElem_cons_zero, List.setIfInBounds_toArray, List.set_cons_zero, List.set_cons_succ]
        refine wpAnyH_done (by kernel_rfl) ?_ _
        go_wp2_with fail
        go_meet
        case rel => exact ⟨g13, g14, pv, nv, cv, pw, nw, cw, rfl, rfl, rfl, HA13_7.out, HA14_7.out, HRV_7.out, HRW_7.out, HLV.out, HLW.out, HB7.out⟩
  case rest =>
    obtain ⟨g13, g14, pv, nv, cv, pw, nw, cw, rfl, rfl, rfl, hv, hw, hrv, hrw, hlv, hlw, hbx⟩ := hcut
    have HKAc := Lib.hid (HKA.out.below hbx HKA.out.lt)
    have HKBc := Lib.hid (HKB.out.below hbx HKB.out.lt)
    have HKVc := Lib.hid hv
    have HKWc := Lib.hid hw
    have HCUc := Lib.hid (HCB.out.below hbx HCB.out.lt)
    have HINX : Hid (∀ b ∈ [bkA pa na ca X, bkB pb nb cb Y], b.In wc) := fun b hb => (HINB.out b hb).kept hbx
    have HINV : Hid (∀ b ∈ [bkA pv nv cv (keepL cur X), bkB pw nw cw (keepL cur Y)], b.In wc) := two_in hrv hrw hlv hlw (keep_good HGA.out) (keep_good HGB.out) (by have := HKX.out; omega) (by have := HKY.out; omega)
    have HBC := Lib.hid (HBW.out.trans (hbx.mono HBW.out.size))
    clear hv hw hrv hrw hlv hlw hbx HS HKEEPX HKEEPY HTW2
    have HL1 := Lib.hid (fun W (h : Below wc.heap.size wc W) => look_any W 0 1 cur pa none pb none na ca 0 0 nb cb 0 0 X Y ((HINX.out (bkA pa na ca X) (by simp)).row.kept h) ((HINX.out (bkB pb nb cb Y) (by simp)).row.kept h) (HINX.out (bkA pa na ca X) (by simp)).len (HINX.out (bkB pb nb cb Y) (by simp)).len (HINX.out (bkA pa na ca X) (by simp)).small (HINX.out (bkB pb nb cb Y) (by simp)).small (HINX.out (bkA pa na ca X) (by simp)).ok (HINX.out (bkB pb nb cb Y) (by simp)).ok)
    have HL2 := Lib.hid (fun W (h : Below wc.heap.size wc W) => look_any W 0 1 cur pv none pw none nv cv 0 0 nw cw 0 0 (keepL cur X) (keepL cur Y) ((HINV.out (bkA pv nv cv (keepL cur X)) (by simp)).row.kept h) ((HINV.out (bkB pw nw cw (keepL cur Y)) (by simp)).row.kept h) (HINV.out (bkA pv nv cv (keepL cur X)) (by simp)).len (HINV.out (bkB pw nw cw (keepL cur Y)) (by simp)).len (HINV.out (bkA pv nv cv (keepL cur X)) (by simp)).small (HINV.out (bkB pw nw cw (keepL cur Y)) (by simp)).small (HINV.out (bkA pv nv cv (keepL cur X)) (by simp)).ok (HINV.out (bkB pw nw cw (keepL cur Y)) (by simp)).ok)
    rw [keep_look] at HL2
    have HEVX := Lib.hid (fun W v (h : Below wc.heap.size wc W) (hr : TRow encB W v [bkA pa na ca X, bkB pb nb cb Y]) => even_any W cur v _ hr (fun b hb => (HINX.out b hb).kept h) (by simp))
    have HEVV := Lib.hid (fun W v (h : Below wc.heap.size wc W) (hr : TRow encB W v [bkA pv nv cv (keepL cur X), bkB pw nw cw (keepL cur Y)]) => even_any W cur v _ hr (fun b hb => (HINV.out b hb).kept h) (by simp))
    rw [show evenB cur [bkA pv nv cv (keepL cur X), bkB pw nw cw (keepL cur Y)] = evenB cur [bkA pa na ca X, bkB pb nb cb Y] from keep_even _ _ _ _ _ _ _ _ _ _ _ _ _ _ _] at HEVV
    generalize evenB cur [bkA pa na ca X, bkB pb nb cb Y] = EV at *
    unfold lookV pairV at HL1 HL2
    unfold bookV at HL1 HL2
    generalize amtS (soldL 0 1 cur X) = AX at *
    generalize amtS (soldL 0 1 cur Y) = AY at *
    generalize alikeB 0 1 cur X Y = AL at *
    have a0 : wc.cell? ⟨ga, 0, none⟩ = some (.int .i64 0) := HKAc.out.cell 0
    have a1 : wc.cell? ⟨ga, 1, none⟩ = some (.slice pa na ca) := HKAc.out.cell 1
    have a2 : wc.cell? ⟨ga, 2, none⟩ = some (.slice none 0 0) := HKAc.out.cell 2
    have b0 : wc.cell? ⟨(ga + 1), 0, none⟩ = some (.int .i64 1) := HKBc.out.cell 0
    have b1 : wc.cell? ⟨(ga + 1), 1, none⟩ = some (.slice pb nb cb) := HKBc.out.cell 1
    have b2 : wc.cell? ⟨(ga + 1), 2, none⟩ = some (.slice none 0 0) := HKBc.out.cell 2
    have u0 : wc.cell? ⟨w.heap.size, 0, none⟩ = some (.int .i64 cur) := HCUc.out.cell 0
    go_wp2_with fail
    refine (HL1.out wc (Below.refl _ _)).mono ?_
    rintro y wd ⟨rfl, hbd⟩
    have HBD := Lib.hid hbd
    clear hbd HL1 a0 a1 a2 b0 b1 b2 u0
    go_upto_region 9 with fail
    have HPD := Lib.hid (Blk.new wd #[.int .i64 0, .int .i64 1, .int .i64 AX, .int .i64 AY, .bool AL] 30)
    have HBE := Lib.hid (HBD.out.trans ((oneB wd (.cells #[.int .i64 0, .int .i64 1, .int .i64 AX, .int .i64 AY, .bool AL] 30)).mono HBD.out.size))
    generalize wd.alloc (.cells #[.int .i64 0, .int .i64 1, .int .i64 AX, .int .i64 AY, .bool AL] 30) = we at *
    generalize wd.heap.size = gp at *
    have HKVcd := Lib.hid (HKVc.out.below HBE.out HKVc.out.lt)
    have HKWcd := Lib.hid (HKWc.out.below HBE.out HKWc.out.lt)
    have HCUd := Lib.hid (HCUc.out.below HBE.out HCUc.out.lt)
    have v0 : we.cell? ⟨g13, 0, none⟩ = some (.int .i64 0) := HKVcd.out.cell 0
    have v1 : we.cell? ⟨g13, 1, none⟩ = some (.slice pv nv cv) := HKVcd.out.cell 1
    have v2 : we.cell? ⟨g13, 2, none⟩ = some (.slice none 0 0) := HKVcd.out.cell 2
    have w0 : we.cell? ⟨g14, 0, none⟩ = some (.int .i64 1) := HKWcd.out.cell 0
    have w1 : we.cell? ⟨g14, 1, none⟩ = some (.slice pw nw cw) := HKWcd.out.cell 1
    have w2 : we.cell? ⟨g14, 2, none⟩ = some (.slice none 0 0) := HKWcd.out.cell 2
    have u0 : we.cell? ⟨w.heap.size, 0, none⟩ = some (.int .i64 cur) := HCUd.out.cell 0
    go_wp2_with fail
    refine (HL2.out we HBE.out).mono ?_
    rintro y wf ⟨rfl, hbf⟩
    have HBF := Lib.hid (HBE.out.trans (hbf.mono HBE.out.size))
    have HPF := Lib.hid (HPD.out.below hbf HPD.out.lt)
    clear hbf HL2 v0 v1 v2 w0 w1 w2 u0 HKVcd HKWcd HCUd HPD HBD
    go_upto_region 10 with fail
    have HPQ := Lib.hid (Blk.new wf #[.int .i64 0, .int .i64 1, .int .i64 AX, .int .i64 AY, .bool AL] 30)
    have HPP := Lib.hid (HPF.out.alloc (.cells #[.int .i64 0, .int .i64 1, .int .i64 AX, .int .i64 AY, .bool AL] 30))
    have HBG := Lib.hid (HBF.out.trans ((oneB wf (.cells #[.int .i64 0, .int .i64 1, .int .i64 AX, .int .i64 AY, .bool AL] 30)).mono HBF.out.size))
    generalize wf.alloc (.cells #[.int .i64 0, .int .i64 1, .int .i64 AX, .int .i64 AY, .bool AL] 30) = wg at *
    generalize wf.heap.size = gq at *
    have HKAce := Lib.hid (HKAc.out.below HBG.out HKAc.out.lt)
    have HKBce := Lib.hid (HKBc.out.below HBG.out HKBc.out.lt)
    have HKVce := Lib.hid (HKVc.out.below HBG.out HKVc.out.lt)
    have HKWce := Lib.hid (HKWc.out.below HBG.out HKWc.out.lt)
    have HCUe := Lib.hid (HCUc.out.below HBG.out HCUc.out.lt)
    have HSS : Hid (∀ w', Below wc.heap.size wc w' → Below wg.heap.size wg w' → w'.cell? ⟨gp, 0, none⟩ = some (.int .i64 0) ∧ w'.cell? ⟨gp, 1, none⟩ = some (.int .i64 1) ∧ w'.cell? ⟨gp, 2, none⟩ = some (.int .i64 AX) ∧ w'.cell? ⟨gp, 3, none⟩ = some (.int .i64 AY) ∧ w'.cell? ⟨gp, 4, none⟩ = some (.bool AL) ∧ w'.cell? ⟨gq, 0, none⟩ = some (.int .i64 0) ∧ w'.cell? ⟨gq, 1, none⟩ = some (.int .i64 1) ∧ w'.cell? ⟨gq, 2, none⟩ = some (.int .i64 AX) ∧ w'.cell? ⟨gq, 3, none⟩ = some (.int .i64 AY) ∧ w'.cell? ⟨gq, 4, none⟩ = some (.bool AL) ∧ w'.cell? ⟨w.heap.size, 0, none⟩ = some (.int .i64 cur) ∧ w'.cell? ⟨ga, 0, none⟩ = some (.int .i64 0) ∧ w'.cell? ⟨ga, 1, none⟩ = some (.slice pa na ca) ∧ w'.cell? ⟨ga, 2, none⟩ = some (.slice none 0 0) ∧ w'.cell? ⟨(ga + 1), 0, none⟩ = some (.int .i64 1) ∧ w'.cell? ⟨(ga + 1), 1, none⟩ = some (.slice pb nb cb) ∧ w'.cell? ⟨(ga + 1), 2, none⟩ = some (.slice none 0 0) ∧ w'.cell? ⟨g13, 0, none⟩ = some (.int .i64 0) ∧ w'.cell? ⟨g13, 1, none⟩ = some (.slice pv nv cv) ∧ w'.cell? ⟨g13, 2, none⟩ = some (.slice none 0 0) ∧ w'.cell? ⟨g14, 0, none⟩ = some (.int .i64 1) ∧ w'.cell? ⟨g14, 1, none⟩ = some (.slice pw nw cw) ∧ w'.cell? ⟨g14, 2, none⟩ = some (.slice none 0 0)) := fun w' _ h => ⟨(HPP.out.below h HPP.out.lt).cell 0, (HPP.out.below h HPP.out.lt).cell 1, (HPP.out.below h HPP.out.lt).cell 2, (HPP.out.below h HPP.out.lt).cell 3, (HPP.out.below h HPP.out.lt).cell 4, (HPQ.out.below h HPQ.out.lt).cell 0, (HPQ.out.below h HPQ.out.lt).cell 1, (HPQ.out.below h HPQ.out.lt).cell 2, (HPQ.out.below h HPQ.out.lt).cell 3, (HPQ.out.below h HPQ.out.lt).cell 4, (HCUe.out.below h HCUe.out.lt).cell 0, (HKAce.out.below h HKAce.out.lt).cell 0, (HKAce.out.below h HKAce.out.lt).cell 1, (HKAce.out.below h HKAce.out.lt).cell 2, (HKBce.out.below h HKBce.out.lt).cell 0, (HKBce.out.below h HKBce.out.lt).cell 1, (HKBce.out.below h HKBce.out.lt).cell 2, (HKVce.out.below h HKVce.out.lt).cell 0, (HKVce.out.below h HKVce.out.lt).cell 1, (HKVce.out.below h HKVce.out.lt).cell 2, (HKWce.out.below h HKWce.out.lt).cell 0, (HKWce.out.below h HKWce.out.lt).cell 1, (HKWce.out.below h HKWce.out.lt).cell 2⟩
    have hS2 : wg.drew.cell? ⟨gp, 0, none⟩ = some (.int .i64 0) ∧ wg.drew.cell? ⟨gp, 1, none⟩ = some (.int .i64 1) ∧ wg.drew.cell? ⟨gp, 2, none⟩ = some (.int .i64 AX) ∧ wg.drew.cell? ⟨gp, 3, none⟩ = some (.int .i64 AY) ∧ wg.drew.cell? ⟨gp, 4, none⟩ = some (.bool AL) ∧ wg.drew.cell? ⟨gq, 0, none⟩ = some (.int .i64 0) ∧ wg.drew.cell? ⟨gq, 1, none⟩ = some (.int .i64 1) ∧ wg.drew.cell? ⟨gq, 2, none⟩ = some (.int .i64 AX) ∧ wg.drew.cell? ⟨gq, 3, none⟩ = some (.int .i64 AY) ∧ wg.drew.cell? ⟨gq, 4, none⟩ = some (.bool AL) ∧ wg.drew.cell? ⟨w.heap.size, 0, none⟩ = some (.int .i64 cur) ∧ wg.drew.cell? ⟨ga, 0, none⟩ = some (.int .i64 0) ∧ wg.drew.cell? ⟨ga, 1, none⟩ = some (.slice pa na ca) ∧ wg.drew.cell? ⟨ga, 2, none⟩ = some (.slice none 0 0) ∧ wg.drew.cell? ⟨(ga + 1), 0, none⟩ = some (.int .i64 1) ∧ wg.drew.cell? ⟨(ga + 1), 1, none⟩ = some (.slice pb nb cb) ∧ wg.drew.cell? ⟨(ga + 1), 2, none⟩ = some (.slice none 0 0) ∧ wg.drew.cell? ⟨g13, 0, none⟩ = some (.int .i64 0) ∧ wg.drew.cell? ⟨g13, 1, none⟩ = some (.slice pv nv cv) ∧ wg.drew.cell? ⟨g13, 2, none⟩ = some (.slice none 0 0) ∧ wg.drew.cell? ⟨g14, 0, none⟩ = some (.int .i64 1) ∧ wg.drew.cell? ⟨g14, 1, none⟩ = some (.slice pw nw cw) ∧ wg.drew.cell? ⟨g14, 2, none⟩ = some (.slice none 0 0) := ⟨(HPP.out).cell 0, (HPP.out).cell 1, (HPP.out).cell 2, (HPP.out).cell 3, (HPP.out).cell 4, (HPQ.out).cell 0, (HPQ.out).cell 1, (HPQ.out).cell 2, (HPQ.out).cell 3, (HPQ.out).cell 4, (HCUe.out).cell 0, (HKAce.out).cell 0, (HKAce.out).cell 1, (HKAce.out).cell 2, (HKBce.out).cell 0, (HKBce.out).cell 1, (HKBce.out).cell 2, (HKVce.out).cell 0, (HKVce.out).cell 1, (HKVce.out).cell 2, (HKWce.out).cell 0, (HKWce.out).cell 1, (HKWce.out).cell 2⟩
    have HBQ := HBC
    have HF0 := Lib.hid (HBG.out.drew)
    have HG0 := Lib.hid ((Below.refl wg.heap.size wg).drew)
    have keq := fun (w : World) => pair_self 0 1 AX AY AL w
    clear HBF HPF HBE
    refine wp_region_held_drew (S := fun w' => w'.cell? ⟨gp, 0, none⟩ = some (.int .i64 0) ∧ w'.cell? ⟨gp, 1, none⟩ = some (.int .i64 1) ∧ w'.cell? ⟨gp, 2, none⟩ = some (.int .i64 AX) ∧ w'.cell? ⟨gp, 3, none⟩ = some (.int .i64 AY) ∧ w'.cell? ⟨gp, 4, none⟩ = some (.bool AL) ∧ w'.cell? ⟨gq, 0, none⟩ = some (.int .i64 0) ∧ w'.cell? ⟨gq, 1, none⟩ = some (.int .i64 1) ∧ w'.cell? ⟨gq, 2, none⟩ = some (.int .i64 AX) ∧ w'.cell? ⟨gq, 3, none⟩ = some (.int .i64 AY) ∧ w'.cell? ⟨gq, 4, none⟩ = some (.bool AL) ∧ w'.cell? ⟨w.heap.size, 0, none⟩ = some (.int .i64 cur) ∧ w'.cell? ⟨ga, 0, none⟩ = some (.int .i64 0) ∧ w'.cell? ⟨ga, 1, none⟩ = some (.slice pa na ca) ∧ w'.cell? ⟨ga, 2, none⟩ = some (.slice none 0 0) ∧ w'.cell? ⟨(ga + 1), 0, none⟩ = some (.int .i64 1) ∧ w'.cell? ⟨(ga + 1), 1, none⟩ = some (.slice pb nb cb) ∧ w'.cell? ⟨(ga + 1), 2, none⟩ = some (.slice none 0 0) ∧ w'.cell? ⟨g13, 0, none⟩ = some (.int .i64 0) ∧ w'.cell? ⟨g13, 1, none⟩ = some (.slice pv nv cv) ∧ w'.cell? ⟨g13, 2, none⟩ = some (.slice none 0 0) ∧ w'.cell? ⟨g14, 0, none⟩ = some (.int .i64 1) ∧ w'.cell? ⟨g14, 1, none⟩ = some (.slice pw nw cw) ∧ w'.cell? ⟨g14, 2, none⟩ = some (.slice none 0 0)) (by kernel_rfl) hS2 (fun hS0 => ?_)
    refine wpAnyH_take (i := 0) (v := ?_) rfl (by kernel_rfl) (by kernel_rfl) (by kernel_rfl) (fun _ _ _ h => h) (Or.inl ⟨by kernel_rfl, ?_⟩) (by first | assumption | trivial) ?_
    rotate_left
    · intro w hSw
      try dsimp only at hSw
      first | (go_simp; done) | (go_simp; with_reducible rfl)
    try simp only [Act.put, List.getElem_toArray, List.getElem_cons_succ, List.getElem_cons_zero, List.setIfInBounds_toArray, List.set_cons_zero, List.set_cons_succ]
    refine wpAnyH_take (i := 1) (v := ?_) rfl (by kernel_rfl) (by kernel_rfl) (by kernel_rfl) (fun _ _ _ h => h) (Or.inl ⟨by kernel_rfl, ?_⟩) (by first | assumption | trivial) ?_
    rotate_left
    · intro w hSw
      try dsimp only at hSw
      first | (go_simp; done) | (go_simp; with_reducible rfl)
    try simp only [Act.put, List.getElem_toArray, List.getElem_cons_succ, List.getElem_cons_zero, List.setIfInBounds_toArray, List.set_cons_zero, List.set_cons_succ]
    refine wpAnyH_take (i := 2) (v := ?_) rfl (by kernel_rfl) (by kernel_rfl) (by kernel_rfl) (fun _ _ _ h => h) (Or.inl ⟨by kernel_rfl, ?_⟩) (by first | assumption | trivial) ?_
    rotate_left
    · intro w hSw
      try dsimp only at hSw
      first | (go_simp; done) | (go_simp; with_reducible rfl)
    try simp only [Act.put, List.getElem_toArray, List.getElem_cons_succ, List.getElem_cons_zero, List.setIfInBounds_toArray, List.set_cons_zero, List.set_cons_succ]
    refine wpAnyH_take (i := 3) (v := ?_) rfl (by kernel_rfl) (by kernel_rfl) (by kernel_rfl) (fun _ _ _ h => h) (Or.inl ⟨by kernel_rfl, ?_⟩) (by first | assumption | trivial) ?_
    rotate_left
    · intro w hSw
      try dsimp only at hSw
      first | (go_simp; done) | (go_simp; with_reducible rfl)
    try simp only [Act.put, List.getElem_toArray, List.getElem_cons_succ, List.getElem_cons_zero, List.setIfInBounds_toArray, List.set_cons_zero, List.set_cons_succ]
    refine wpAnyH_take (i := 4) (v := ?_) rfl (by kernel_rfl) (by kernel_rfl) (by kernel_rfl) (fun _ _ _ h => h) (Or.inl ⟨by kernel_rfl, ?_⟩) (by first | assumption | trivial) ?_
    rotate_left
    · intro w hSw
      try dsimp only at hSw
      first | (go_simp; done) | (go_simp; with_reducible rfl)
    try simp only [Act.put, List.getElem_toArray, List.getElem_cons_succ, List.getElem_cons_zero, List.setIfInBounds_toArray, List.set_cons_zero, List.set_cons_succ]
    refine wpAnyH_take (i := 5) (v := ?_) rfl (by kernel_rfl) (by kernel_rfl) (by kernel_rfl) (fun _ _ _ h => h) (Or.inl ⟨by kernel_rfl, ?_⟩) (by first | assumption | trivial) ?_
    rotate_left
    · intro w hSw
      try dsimp only at hSw
      first | (go_simp; done) | (go_simp; with_reducible rfl)
    try simp only [Act.put, List.getElem_toArray, List.getElem_cons_succ, List.getElem_cons_zero, List.setIfInBounds_toArray, List.set_cons_zero, List.set_cons_succ]
    refine wpAnyH_take (i := 6) (v := ?_) rfl (by kernel_rfl) (by kernel_rfl) (by kernel_rfl) (fun _ _ _ h => h) (Or.inl ⟨by kernel_rfl, ?_⟩) (by first | assumption | trivial) ?_
    rotate_left
    · intro w hSw
      try dsimp only at hSw
      first | (go_simp; done) | (go_simp; with_reducible rfl)
    try simp only [Act.put, List.getElem_toArray, List.getElem_cons_succ, List.getElem_cons_zero, List.setIfInBounds_toArray, List.set_cons_zero, List.set_cons_succ]
    refine wpAnyH_take (i := 7) (v := ?_) rfl (by kernel_rfl) (by kernel_rfl) (by kernel_rfl) (fun _ _ _ h => h) (Or.inl ⟨by kernel_rfl, ?_⟩) (by first | assumption | trivial) ?_
    rotate_left
    · intro w hSw
      try dsimp only at hSw
      first | (go_simp; done) | (go_simp; with_reducible rfl)
    try simp only [Act.put, List.getElem_toArray, List.getElem_cons_succ, List.getElem_cons_zero, List.setIfInBounds_toArray, List.set_cons_zero, List.set_cons_succ]
    refine wpAnyH_take (i := 8) (v := ?_) rfl (by kernel_rfl) (by kernel_rfl) (by kernel_rfl) (fun _ _ _ h => h) (Or.inl ⟨by kernel_rfl, ?_⟩) (by first | assumption | trivial) ?_
    rotate_left
    · intro w hSw
      try dsimp only at hSw
      first | (go_simp; done) | (go_simp; with_reducible rfl)
    try simp only [Act.put, List.getElem_toArray, List.getElem_cons_succ, List.getElem_cons_zero, List.setIfInBounds_toArray, List.set_cons_zero, List.set_cons_succ]
    refine wpAnyH_take (i := 9) (v := ?_) rfl (by kernel_rfl) (by kernel_rfl) (by kernel_rfl) (fun _ _ _ h => h) (Or.inl ⟨by kernel_rfl, ?_⟩) (by first | assumption | trivial) ?_
    rotate_left
    · intro w hSw
      try dsimp only at hSw
      first | (go_simp; done) | (go_simp; with_reducible rfl)
    try simp only [Act.put, List.getElem_toArray, List.getElem_cons_succ, List.getElem_cons_zero, List.setIfInBounds_toArray, List.set_cons_zero, List.set_cons_succ]
    refine wpAnyH_take (i := 10) (v := ?_) rfl (by kernel_rfl) (by kernel_rfl) (by kernel_rfl) (fun _ _ _ h => h) (Or.inl ⟨by kernel_rfl, ?_⟩) (by first | assumption | trivial) ?_
    rotate_left
    · intro w hSw
      try dsimp only at hSw
      first | (go_simp; done) | (go_simp; with_reducible rfl)
    try simp only [Act.put, List.getElem_toArray, List.getElem_cons_succ, List.getElem_cons_zero, List.setIfInBounds_toArray, List.set_cons_zero, List.set_cons_succ]
    refine wpAnyH_take (i := 11) (v := ?_) rfl (by kernel_rfl) (by kernel_rfl) (by kernel_rfl) (fun _ _ _ h => h) (Or.inl ⟨by kernel_rfl, ?_⟩) (by first | assumption | trivial) ?_
    rotate_left
    · intro w hSw
      try dsimp only at hSw
      first | (go_simp; done) | (go_simp; with_reducible rfl)
    try simp only [Act.put, List.getElem_toArray, List.getElem_cons_succ, List.getElem_cons_zero, List.setIfInBounds_toArray, List.set_cons_zero, List.set_cons_succ]
    refine wpAnyH_take (i := 14) (v := ?_) rfl (by kernel_rfl) (by kernel_rfl) (by kernel_rfl) (fun _ _ _ h => h) (Or.inl ⟨by kernel_rfl, ?_⟩) (by first | assumption | trivial) ?_
    rotate_left
    · intro w hSw
      try dsimp only at hSw
      first | (go_simp; done) | (go_simp; with_reducible rfl)
    try simp only [Act.put, List.getElem_toArray, List.getElem_cons_succ, List.getElem_cons_zero, List.setIfInBounds_toArray, List.set_cons_zero, List.set_cons_succ]
    refine wpAnyH_take (i := 15) (v := ?_) rfl (by kernel_rfl) (by kernel_rfl) (by kernel_rfl) (fun _ _ _ h => h) (Or.inl ⟨by kernel_rfl, ?_⟩) (by first | assumption | trivial) ?_
    rotate_left
    · intro w hSw
      try dsimp only at hSw
      first | (go_simp; done) | (go_simp; with_reducible rfl)
    try simp only [Act.put, List.getElem_toArray, List.getElem_cons_succ, List.getElem_cons_zero, List.setIfInBounds_toArray, List.set_cons_zero, List.set_cons_succ]
    refine wpAnyH_take (i := 16) (v := ?_) rfl (by kernel_rfl) (by kernel_rfl) (by kernel_rfl) (fun _ _ _ h => h) (Or.inl ⟨by kernel_rfl, ?_⟩) (by first | assumption | trivial) ?_
    rotate_left
    · intro w hSw
      try dsimp only at hSw
      first | (go_simp; done) | (go_simp; with_reducible rfl)
    try simp only [Act.put, List.getElem_toArray, List.getElem_cons_succ, List.getElem_cons_zero, List.setIfInBounds_toArray, List.set_cons_zero, List.set_cons_succ]
    generalize wg.drew = r0 at *
    refine wpAnyH_ready (rs := [12, 17]) (by kernel_rfl) (by simp) ?_
    refine AllReadyH.cons rfl (fun K hK => ?_) (AllReadyH.cons rfl (fun K hK => ?_) AllReadyH.nil)
    · skip
      go_simp
      have hb := oneB r0 (.cells #[.int .i64 0, .slice pa na ca, .slice none 0 0, .int .i64 1, .slice pb nb cb, .slice none 0 0] 26)
      have HF1 := Lib.hid (HF0.out.trans (hb.mono HF0.out.size))
      have HG1 := Lib.hid (HG0.out.trans (hb.mono HG0.out.size))
      have HT12_1 := Lib.hid (two_row (w := r0.alloc (.cells #[.int .i64 0, .slice pa na ca, .slice none 0 0, .int .i64 1, .slice pb nb cb, .slice none 0 0] 26)) X Y (Blk.new r0 #[.int .i64 0, .slice pa na ca, .slice none 0 0, .int .i64 1, .slice pb nb cb, .slice none 0 0] 26))
      clear hb
      generalize r0.alloc (.cells #[.int .i64 0, .slice pa na ca, .slice none 0 0, .int .i64 1, .slice pb nb cb, .slice none 0 0] 26) = r1 at *
      generalize r0.heap.size = gs12 at *
      refine hK.out _ _ (HSS.out r1 HF1.out HG1.out) (fun hS => ?_)
      clear hK K
      try simp only [Act.put, List.getElem_toArray, List.getElem_cons_succ, List.getElem_cons_zero, List.setIfInBounds_toArray, List.set_cons_zero, List.set_cons_succ]
      refine wpAnyH_ready (rs := [13, 17]) (by kernel_rfl) (by simp) ?_
      refine AllReadyH.cons rfl (fun K hK => ?_) (AllReadyH.cons rfl (fun K hK => ?_) AllReadyH.nil)
      · skip
        go_simp
        go_at_call 14
        refine (HEVX.out r1 _ HF1.out HT12_1.out).mono ?_
        rintro y r2 ⟨rfl, hb⟩
        have HF2 := Lib.hid (HF1.out.trans (hb.mono HF1.out.size))
        have HG2 := Lib.hid (HG1.out.trans (hb.mono HG1.out.size))
        have HT12_2 := Lib.hid (HT12_1.out.kept hb)
        clear hb
        try go_wp2_with fail
        refine hK.out _ _ (HSS.out r2 HF2.out HG2.out) (fun hS => ?_)
        clear hK K
        try simp only [Act.put, List.getElem_toArray, List.getElem_cons_succ, List.getElem_cons_zero, List.setIfInBounds_toArray, List.set_cons_zero, List.set_cons_succ]
        refine wpAnyH_ready (rs := [17]) (by kernel_rfl) (by simp) ?_
        refine AllReadyH.cons rfl (fun K hK => ?_) AllReadyH.nil
        go_simp
        have hb := oneB r2 (.cells #[.int .i64 0, .slice pv nv cv, .slice none 0 0, .int .i64 1, .slice pw nw cw, .slice none 0 0] 26)
        have HF3 := Lib.hid (HF2.out.trans (hb.mono HF2.out.size))
        have HG3 := Lib.hid (HG2.out.trans (hb.mono HG2.out.size))
        have HT17_3 := Lib.hid (two_row (w := r2.alloc (.cells #[.int .i64 0, .slice pv nv cv, .slice none 0 0, .int .i64 1, .slice pw nw cw, .slice none 0 0] 26)) (keepL cur X) (keepL cur Y) (Blk.new r2 #[.int .i64 0, .slice pv nv cv, .slice none 0 0, .int .i64 1, .slice pw nw cw, .slice none 0 0] 26))
        have HT12_3 := Lib.hid (HT12_2.out.kept hb)
        clear hb
        generalize r2.alloc (.cells #[.int .i64 0, .slice pv nv cv, .slice none 0 0, .int .i64 1, .slice pw nw cw, .slice none 0 0] 26) = r3 at *
        generalize r2.heap.size = gs17 at *
        refine hK.out _ _ (HSS.out r3 HF3.out HG3.out) (fun hS => ?_)
        clear hK K
        try simp only [Act.put, List.getElem_toArray, List.getElem_cons_succ, List.getElem_cons_zero, List.setIfInBounds_toArray, List.set_cons_zero, List.set_cons_succ]
        refine wpAnyH_ready (rs := [18]) (by kernel_rfl) (by simp) ?_
        refine AllReadyH.cons rfl (fun K hK => ?_) AllReadyH.nil
        go_simp
        go_at_call 14
        refine (HEVV.out r3 _ HF3.out HT17_3.out).mono ?_
        rintro y r4 ⟨rfl, hb⟩
        have HF4 := Lib.hid (HF3.out.trans (hb.mono HF3.out.size))
        have HG4 := Lib.hid (HG3.out.trans (hb.mono HG3.out.size))
        have HT12_4 := Lib.hid (HT12_3.out.kept hb)
        have HT17_4 := Lib.hid (HT17_3.out.kept hb)
        clear hb
        try go_wp2_with fail
        refine hK.out _ _ (HSS.out r4 HF4.out HG4.out) (fun hS => ?_)
        clear hK K
        try simp only [Act.put, List.getElem_toArray, List.getElem_cons_succ, List.getElem_cons_zero, List.setIfInBounds_toArray, List.set_cons_zero, List.set_cons_succ]
        refine wpAnyH_take (i := 19) (v := ?_) rfl (by kernel_rfl) (by kernel_rfl) (by kernel_rfl) (fun _ _ _ h => h) (Or.inl ⟨by kernel_rfl, ?_⟩) (by first | assumption | trivial) ?_
        rotate_left
        · intro w hSw
          try dsimp only at hSw
          first | (go_simp; done) | (go_simp; with_reducible rfl)
        try simp only [Act.put, List.getElem_toArray, List.getElem_cons_succ, List.getElem_cons_zero, List.setIfInBounds_toArray, List.set_cons_zero, List.set_cons_succ]
        refine wpAnyH_take (i := 20) (v := ?_) rfl (by kernel_rfl) (by kernel_rfl) (by kernel_rfl) (fun _ _ _ h => h) (Or.inl ⟨by kernel_rfl, ?_⟩) (by first | assumption | trivial) ?_
        rotate_left
        · intro w hSw
          try dsimp only at hSw
          first | (go_simp; done) | (go_simp; with_reducible rfl)
        try simp only [Act.put, List.getElem_toArray, List.getElem_cons_succ, List.getElem_cons_zero, List.setIfInBounds_toArray, List.set_cons_zero, List.set_cons_succ]
        refine wpAnyH_take (i := 21) (v := ?_) rfl (by kernel_rfl) (by kernel_rfl) (by kernel_rfl) (fun _ _ _ h => h) (Or.inl ⟨by kernel_rfl, ?_⟩) (by first | assumption | trivial) ?_
        rotate_left
        · intro w hSw
          try dsimp only at hSw
          first | (go_simp; done) | (go_simp; with_reducible rfl)
        try simp only [Act.put, List.getElem_toArray, List.getElem_cons_succ, List.getElem_cons_zero, List.setIfInBounds_toArray, List.set_cons_zero, List.set_cons_succ]
        refine wpAnyH_done (by kernel_rfl) ?_ _
        go_wp2_with fail
        go_ret
        exact ⟨rfl, HBQ.out.trans (HF4.out.mono HBQ.out.size)⟩
      · skip
        go_simp
        have hb := oneB r1 (.cells #[.int .i64 0, .slice pv nv cv, .slice none 0 0, .int .i64 1, .slice pw nw cw, .slice none 0 0] 26)
        have HF2 := Lib.hid (HF1.out.trans (hb.mono HF1.out.size))
        have HG2 := Lib.hid (HG1.out.trans (hb.mono HG1.out.size))
        have HT17_2 := Lib.hid (two_row (w := r1.alloc (.cells #[.int .i64 0, .slice pv nv cv, .slice none 0 0, .int .i64 1, .slice pw nw cw, .slice none 0 0] 26)) (keepL cur X) (keepL cur Y) (Blk.new r1 #[.int .i64 0, .slice pv nv cv, .slice none 0 0, .int .i64 1, .slice pw nw cw, .slice none 0 0] 26))
        have HT12_2 := Lib.hid (HT12_1.out.kept hb)
        clear hb
        generalize r1.alloc (.cells #[.int .i64 0, .slice pv nv cv, .slice none 0 0, .int .i64 1, .slice pw nw cw, .slice none 0 0] 26) = r2 at *
        generalize r1.heap.size = gs17 at *
        refine hK.out _ _ (HSS.out r2 HF2.out HG2.out) (fun hS => ?_)
        clear hK K
        try simp only [Act.put, List.getElem_toArray, List.getElem_cons_succ, List.getElem_cons_zero, List.setIfInBounds_toArray, List.set_cons_zero, List.set_cons_succ]
        refine wpAnyH_ready (rs := [13]) (by kernel_rfl) (by simp) ?_
        refine AllReadyH.cons rfl (fun K hK => ?_) AllReadyH.nil
        go_simp
        go_at_call 14
        refine (HEVX.out r2 _ HF2.out HT12_2.out).mono ?_
        rintro y r3 ⟨rfl, hb⟩
        have HF3 := Lib.hid (HF2.out.trans (hb.mono HF2.out.size))
        have HG3 := Lib.hid (HG2.out.trans (hb.mono HG2.out.size))
        have HT12_3 := Lib.hid (HT12_2.out.kept hb)
        have HT17_3 := Lib.hid (HT17_2.out.kept hb)
        clear hb
        try go_wp2_with fail
        refine hK.out _ _ (HSS.out r3 HF3.out HG3.out) (fun hS => ?_)
        clear hK K
        try simp only [Act.put, List.getElem_toArray, List.getElem_cons_succ, List.getElem_cons_zero, List.setIfInBounds_toArray, List.set_cons_zero, List.set_cons_succ]
        refine wpAnyH_ready (rs := [18]) (by kernel_rfl) (by simp) ?_
        refine AllReadyH.cons rfl (fun K hK => ?_) AllReadyH.nil
        go_simp
        go_at_call 14
        refine (HEVV.out r3 _ HF3.out HT17_3.out).mono ?_
        rintro y r4 ⟨rfl, hb⟩
        have HF4 := Lib.hid (HF3.out.trans (hb.mono HF3.out.size))
        have HG4 := Lib.hid (HG3.out.trans (hb.mono HG3.out.size))
        have HT12_4 := Lib.hid (HT12_3.out.kept hb)
        have HT17_4 := Lib.hid (HT17_3.out.kept hb)
        clear hb
        try go_wp2_with fail
        refine hK.out _ _ (HSS.out r4 HF4.out HG4.out) (fun hS => ?_)
        clear hK K
        try simp only [Act.put, List.getElem_toArray, List.getElem_cons_succ, List.getElem_cons_zero, List.setIfInBounds_toArray, List.set_cons_zero, List.set_cons_succ]
        refine wpAnyH_take (i := 19) (v := ?_) rfl (by kernel_rfl) (by kernel_rfl) (by kernel_rfl) (fun _ _ _ h => h) (Or.inl ⟨by kernel_rfl, ?_⟩) (by first | assumption | trivial) ?_
        rotate_left
        · intro w hSw
          try dsimp only at hSw
          first | (go_simp; done) | (go_simp; with_reducible rfl)
        try simp only [Act.put, List.getElem_toArray, List.getElem_cons_succ, List.getElem_cons_zero, List.setIfInBounds_toArray, List.set_cons_zero, List.set_cons_succ]
        refine wpAnyH_take (i := 20) (v := ?_) rfl (by kernel_rfl) (by kernel_rfl) (by kernel_rfl) (fun _ _ _ h => h) (Or.inl ⟨by kernel_rfl, ?_⟩) (by first | assumption | trivial) ?_
        rotate_left
        · intro w hSw
          try dsimp only at hSw
          first | (go_simp; done) | (go_simp; with_reducible rfl)
        try simp only [Act.put, List.getElem_toArray, List.getElem_cons_succ, List.getElem_cons_zero, List.setIfInBounds_toArray, List.set_cons_zero, List.set_cons_succ]
        refine wpAnyH_take (i := 21) (v := ?_) rfl (by kernel_rfl) (by kernel_rfl) (by kernel_rfl) (fun _ _ _ h => h) (Or.inl ⟨by kernel_rfl, ?_⟩) (by first | assumption | trivial) ?_
        rotate_left
        · intro w hSw
          try dsimp only at hSw
          first | (go_simp; done) | (go_simp; with_reducible rfl)
        try simp only [Act.put, List.getElem_toArray, List.getElem_cons_succ, List.getElem_cons_zero, List.setIfInBounds_toArray, List.set_cons_zero, List.set_cons_succ]
        refine wpAnyH_done (by kernel_rfl) ?_ _
        go_wp2_with fail
        go_ret
        exact ⟨rfl, HBQ.out.trans (HF4.out.mono HBQ.out.size)⟩
    · skip
      go_simp
      have hb := oneB r0 (.cells #[.int .i64 0, .slice pv nv cv, .slice none 0 0, .int .i64 1, .slice pw nw cw, .slice none 0 0] 26)
      have HF1 := Lib.hid (HF0.out.trans (hb.mono HF0.out.size))
      have HG1 := Lib.hid (HG0.out.trans (hb.mono HG0.out.size))
      have HT17_1 := Lib.hid (two_row (w := r0.alloc (.cells #[.int .i64 0, .slice pv nv cv, .slice none 0 0, .int .i64 1, .slice pw nw cw, .slice none 0 0] 26)) (keepL cur X) (keepL cur Y) (Blk.new r0 #[.int .i64 0, .slice pv nv cv, .slice none 0 0, .int .i64 1, .slice pw nw cw, .slice none 0 0] 26))
      clear hb
      generalize r0.alloc (.cells #[.int .i64 0, .slice pv nv cv, .slice none 0 0, .int .i64 1, .slice pw nw cw, .slice none 0 0] 26) = r1 at *
      generalize r0.heap.size = gs17 at *
      refine hK.out _ _ (HSS.out r1 HF1.out HG1.out) (fun hS => ?_)
      clear hK K
      try simp only [Act.put, List.getElem_toArray, List.getElem_cons_succ, List.getElem_cons_zero, List.setIfInBounds_toArray, List.set_cons_zero, List.set_cons_succ]
      refine wpAnyH_ready (rs := [12]) (by kernel_rfl) (by simp) ?_
      refine AllReadyH.cons rfl (fun K hK => ?_) AllReadyH.nil
      go_simp
      have hb := oneB r1 (.cells #[.int .i64 0, .slice pa na ca, .slice none 0 0, .int .i64 1, .slice pb nb cb, .slice none 0 0] 26)
      have HF2 := Lib.hid (HF1.out.trans (hb.mono HF1.out.size))
      have HG2 := Lib.hid (HG1.out.trans (hb.mono HG1.out.size))
      have HT12_2 := Lib.hid (two_row (w := r1.alloc (.cells #[.int .i64 0, .slice pa na ca, .slice none 0 0, .int .i64 1, .slice pb nb cb, .slice none 0 0] 26)) X Y (Blk.new r1 #[.int .i64 0, .slice pa na ca, .slice none 0 0, .int .i64 1, .slice pb nb cb, .slice none 0 0] 26))
      have HT17_2 := Lib.hid (HT17_1.out.kept hb)
      clear hb
      generalize r1.alloc (.cells #[.int .i64 0, .slice pa na ca, .slice none 0 0, .int .i64 1, .slice pb nb cb, .slice none 0 0] 26) = r2 at *
      generalize r1.heap.size = gs12 at *
      refine hK.out _ _ (HSS.out r2 HF2.out HG2.out) (fun hS => ?_)
      clear hK K
      try simp only [Act.put, List.getElem_toArray, List.getElem_cons_succ, List.getElem_cons_zero, List.setIfInBounds_toArray, List.set_cons_zero, List.set_cons_succ]
      refine wpAnyH_ready (rs := [13]) (by kernel_rfl) (by simp) ?_
      refine AllReadyH.cons rfl (fun K hK => ?_) AllReadyH.nil
      go_simp
      go_at_call 14
      refine (HEVX.out r2 _ HF2.out HT12_2.out).mono ?_
      rintro y r3 ⟨rfl, hb⟩
      have HF3 := Lib.hid (HF2.out.trans (hb.mono HF2.out.size))
      have HG3 := Lib.hid (HG2.out.trans (hb.mono HG2.out.size))
      have HT17_3 := Lib.hid (HT17_2.out.kept hb)
      have HT12_3 := Lib.hid (HT12_2.out.kept hb)
      clear hb
      try go_wp2_with fail
      refine hK.out _ _ (HSS.out r3 HF3.out HG3.out) (fun hS => ?_)
      clear hK K
      try simp only [Act.put, List.getElem_toArray, List.getElem_cons_succ, List.getElem_cons_zero, List.setIfInBounds_toArray, List.set_cons_zero, List.set_cons_succ]
      refine wpAnyH_ready (rs := [18]) (by kernel_rfl) (by simp) ?_
      refine AllReadyH.cons rfl (fun K hK => ?_) AllReadyH.nil
      go_simp
      go_at_call 14
      refine (HEVV.out r3 _ HF3.out HT17_3.out).mono ?_
      rintro y r4 ⟨rfl, hb⟩
      have HF4 := Lib.hid (HF3.out.trans (hb.mono HF3.out.size))
      have HG4 := Lib.hid (HG3.out.trans (hb.mono HG3.out.size))
      have HT17_4 := Lib.hid (HT17_3.out.kept hb)
      have HT12_4 := Lib.hid (HT12_3.out.kept hb)
      clear hb
      try go_wp2_with fail
      refine hK.out _ _ (HSS.out r4 HF4.out HG4.out) (fun hS => ?_)
      clear hK K
      try simp only [Act.put, List.getElem_toArray, List.getElem_cons_succ, List.getElem_cons_zero, List.setIfInBounds_toArray, List.set_cons_zero, List.set_cons_succ]
      refine wpAnyH_take (i := 19) (v := ?_) rfl (by kernel_rfl) (by kernel_rfl) (by kernel_rfl) (fun _ _ _ h => h) (Or.inl ⟨by kernel_rfl, ?_⟩) (by first | assumption | trivial) ?_
      rotate_left
      · intro w hSw
        try dsimp only at hSw
        first | (go_simp; done) | (go_simp; with_reducible rfl)
      try simp only [Act.put, List.getElem_toArray, List.getElem_cons_succ, List.getElem_cons_zero, List.setIfInBounds_toArray, List.set_cons_zero, List.set_cons_succ]
      refine wpAnyH_take (i := 20) (v := ?_) rfl (by kernel_rfl) (by kernel_rfl) (by kernel_rfl) (fun _ _ _ h => h) (Or.inl ⟨by kernel_rfl, ?_⟩) (by first | assumption | trivial) ?_
      rotate_left
      · intro w hSw
        try dsimp only at hSw
        first | (go_simp; done) | (go_simp; with_reducible rfl)
      try simp only [Act.put, List.getElem_toArray, List.getElem_cons_succ, List.getElem_cons_zero, List.setIfInBounds_toArray, List.set_cons_zero, List.set_cons_succ]
      refine wpAnyH_take (i := 21) (v := ?_) rfl (by kernel_rfl) (by kernel_rfl) (by kernel_rfl) (fun _ _ _ h => h) (Or.inl ⟨by kernel_rfl, ?_⟩) (by first | assumption | trivial) ?_
      rotate_left
      · intro w hSw
        try dsimp only at hSw
        first | (go_simp; done) | (go_simp; with_reducible rfl)
      try simp only [Act.put, List.getElem_toArray, List.getElem_cons_succ, List.getElem_cons_zero, List.setIfInBounds_toArray, List.set_cons_zero, List.set_cons_succ]
      refine wpAnyH_done (by kernel_rfl) ?_ _
      go_wp2_with fail
      go_ret
      exact ⟨rfl, HBQ.out.trans (HF4.out.mono HBQ.out.size)⟩
end Go.Proofs.Ytogfhijfpobhhaa
