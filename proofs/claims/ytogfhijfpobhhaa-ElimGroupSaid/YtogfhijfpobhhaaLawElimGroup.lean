/- ElimGroup: the walk. -/
import Derived.Test.YtogfhijfpobhhaaTwo
import Derived.Test.YtogfhijfpobhhaaVecList
namespace Go.Proofs.Ytogfhijfpobhhaa
open Go.RowKit
theorem oneP_cases (cur : Int) (x : Bk) : (openS cur x = 0 ∧ oneP cur x = []) ∨ oneP cur x = [⟨x.me, cur, openS cur x⟩] := by
  unfold oneP
  by_cases h : openS cur x = 0
  · exact .inl ⟨h, if_pos h⟩
  · exact .inr (if_neg h)
theorem oneP_mid (cur : Int) (x : Bk) : midA (oneP cur x) = openS cur x := by
  rcases oneP_cases cur x with ⟨h1, h2⟩ | h2
  · rw [h2, h1]; rfl
  · rw [h2]; rfl
theorem oneP_mem {cur : Int} {x : Bk} {q : Pos} (h : q ∈ oneP cur x) : q = ⟨x.me, cur, openS cur x⟩ := by
  rcases oneP_cases cur x with ⟨_, h2⟩ | h2
  · rw [h2] at h; cases h
  · rw [h2] at h; exact List.mem_singleton.1 h
theorem oneP_len (cur : Int) (x : Bk) : (oneP cur x).length ≤ 1 := by
  rcases oneP_cases cur x with ⟨_, h2⟩ | h2 <;> rw [h2] <;> simp
theorem one_there (cur : Int) (x : Bk) : oneP cur x = [] ∨ ∃ q, oneP cur x = [q] ∧ ordP q ⟨x.me, cur, 0⟩ = 0 := by
  rcases oneP_cases cur x with ⟨_, h2⟩ | h2
  · exact .inl h2
  · exact .inr ⟨_, h2, by rw [ordP_eq]; exact ⟨rfl, rfl⟩⟩
theorem around0 (cur : Int) (x y : Bk) (h : x.me < y.me) : Around ⟨x.me, cur, 0⟩ (oneP cur x ++ oneP cur y) [] (oneP cur x) (oneP cur y) :=
  ⟨rfl, (fun _ h => by cases h), (fun q hq => by rw [oneP_mem hq, ordP_gt]; exact .inl h), one_there cur x⟩
theorem around1 (cur : Int) (x y : Bk) (h : x.me < y.me) : Around ⟨y.me, cur, 0⟩ (oneP cur x ++ oneP cur y) (oneP cur x) (oneP cur y) [] :=
  ⟨by simp, (fun q hq => by rw [oneP_mem hq, ordP_lt]; exact .inl h), (fun _ h => by cases h), one_there cur y⟩
theorem around2 (cur m : Int) (x y : Bk) (h1 : x.me < m) (h2 : y.me < m) : Around ⟨m, cur, 0⟩ (oneP cur x ++ oneP cur y) (oneP cur x ++ oneP cur y) [] [] :=
  ⟨by simp, (fun q hq => by rcases List.mem_append.1 hq with hq | hq <;> (rw [oneP_mem hq, ordP_lt]; first | exact .inl h1 | exact .inl h2)), (fun _ h => by cases h), .inl rfl⟩
theorem bk_open (W : World) (cur : Int) (x : Bk) (h : x.In W) : Calls Try.prog 17 #[bookV x.me (.slice x.p x.n x.c) (.slice x.q x.a x.b), .int .i64 cur, .int .i64 (-1)] W fun e w' => e = .returned (.tuple #[.int .i64 (openS cur x), .int .i64 0]) ∧ Below W.heap.size W w' := by
  have hs := open_small (cur := cur) h.ok h.small
  have hf : Fits (openS cur x) := by unfold Fits; omega
  exact open_any W x.me x.p x.q x.n x.c x.a x.b x.xs cur (-1) (openS cur x) 0 h.row h.small h.ok (sumN_yes hf) (sumE_yes hf)
theorem grpL_two (cur : Int) (x y : Bk) : grpL cur [x, y] = oneP cur x ++ oneP cur y := by unfold grpL; simp
set_option linter.unusedSimpArgs false in
set_option maxHeartbeats 8000000 in
set_option maxRecDepth 100000 in
theorem egroup_walk (va : Value) (la : List Itm) (vb : Value) (lb : List Itm) (cur : Int) (w : World) (ha : TRow encI w va la) (hb : TRow encI w vb lb) (_ : -9223372036854775808 ≤ cur ∧ cur ≤ 9223372036854775807) :
    Calls Try.prog 5 #[va, vb, .int .i64 cur] w fun e w' => e = .returned (.bool true) ∧ Below w.heap.size w w' := by
  obtain ⟨p1, c1, rfl⟩ := ha.shape
  obtain ⟨p2, c2, rfl⟩ := hb.shape
  have HK := Lib.hid (fun W => holds15_any W)
  by_cases hl1 : 30 < la.length
  · have hlI : (30 : Int) < (la.length : Int) := by omega
    clear ha hb hl1
    generalize la.length = n1 at *
    generalize lb.length = n2 at *
    go_enter Try.func5, Try.ntmps5
    go_wp2_with fail
    refine (HK.out _).mono ?_
    rintro y w1 ⟨rfl, hb1⟩
    have HB1 := Lib.hid hb1
    clear hb1
    go_wp2_with fail
    go_ret
    exact ⟨rfl, HB1.out⟩
  have hlI1 : (la.length : Int) ≤ (30 : Int) := by omega
  by_cases hl2 : 30 < lb.length
  · have hlI : (30 : Int) < (lb.length : Int) := by omega
    clear ha hb hl1 hl2
    generalize la.length = n1 at *
    generalize lb.length = n2 at *
    go_enter Try.func5, Try.ntmps5
    go_wp2_with fail
    refine (HK.out _).mono ?_
    rintro y w1 ⟨rfl, hb1⟩
    have HB1 := Lib.hid hb1
    clear hb1
    go_wp2_with fail
    go_ret
    exact ⟨rfl, HB1.out⟩
  have hlI2 : (lb.length : Int) ≤ (30 : Int) := by omega
  have HTW := Lib.hid (fun W (h : Below w.heap.size w W) => two_any W _ _ la lb (ha.kept h) (hb.kept h) (by omega) (by omega))
  have HGA : Hid (GoodB 0 (foldX 0 [] la)) := foldX_good (goodB_nil 0)
  have HGB : Hid (GoodB 1 (foldX 1 [] lb)) := foldX_good (goodB_nil 1)
  have HNA : Hid ((foldX 0 [] la).length ≤ 30) := by show _ ≤ _; have := foldX_len (l := la) (goodB_nil 0); rw [List.length_nil] at this; omega
  have HNB : Hid ((foldX 1 [] lb).length ≤ 30) := by show _ ≤ _; have := foldX_len (l := lb) (goodB_nil 1); rw [List.length_nil] at this; omega
  clear ha hb hl1 hl2
  generalize la.length = n1 at *
  generalize lb.length = n2 at *
  generalize foldX 0 [] la = X at *
  generalize foldX 1 [] lb = Y at *
  unfold bookV at HTW
  go_enter Try.func5, Try.ntmps5
  go_wp2_with fail
  refine (HK.out w).mono ?_
  rintro y w1 ⟨rfl, hb1⟩
  have HB1 := Lib.hid hb1
  clear hb1 HK
  go_wp2_with fail
  refine (HTW.out w1 HB1.out).mono ?_
  rintro y w2 ⟨pa, na, ca, pb, nb, cb, rfl, hra, hla, hrb, hlb, hb2⟩
  have HB2 := Lib.hid (HB1.out.trans (hb2.mono HB1.out.size))
  have HIN : Hid (∀ b ∈ [bkA pa na ca X, bkB pb nb cb Y], b.In w2) := two_in hra hrb hla hlb HGA.out HGB.out (by have := HNA.out; omega) (by have := HNB.out; omega)
  clear hra hla hrb hlb hb2 HTW HB1
  go_upto_region 6 with fail
  generalize hW3 : (w2.alloc (.cells #[.int .i64 0, .slice pa na ca, .slice none 0 0] 26)).alloc (.cells #[.int .i64 1, .slice pb nb cb, .slice none 0 0] 26) = W3
  have HB3 : Hid (Below w2.heap.size w2 W3) := by show Below _ _ _; rw [← hW3]; exact (oneB w2 _).alloc (by simp) _
  have HKA : Hid (Blk W3 w2.heap.size #[.int .i64 0, .slice pa na ca, .slice none 0 0] 26) := by show Blk _ _ _ _; rw [← hW3]; exact (Blk.new w2 _ _).alloc _
  have HKB : Hid (Blk W3 (w2.heap.size + 1) #[.int .i64 1, .slice pb nb cb, .slice none 0 0] 26) := by show Blk _ _ _ _; rw [← hW3]; exact Blk.new' _ _ _ (by simp)
  clear hW3
  have HBW := Lib.hid (HB2.out.trans (HB3.out.mono HB2.out.size))
  have HIN3 : Hid (∀ b ∈ [bkA pa na ca X, bkB pb nb cb Y], b.In W3) := fun b hb => (HIN.out b hb).kept HB3.out
  clear HB2 HB3 HIN
  generalize w2.heap.size = ga at *
  have a0 : W3.cell? ⟨ga, 0, none⟩ = some (.int .i64 0) := HKA.out.cell 0
  have a1 : W3.cell? ⟨ga, 1, none⟩ = some (.slice pa na ca) := HKA.out.cell 1
  have a2 : W3.cell? ⟨ga, 2, none⟩ = some (.slice none 0 0) := HKA.out.cell 2
  have b0 : W3.cell? ⟨(ga + 1), 0, none⟩ = some (.int .i64 1) := HKB.out.cell 0
  have b1 : W3.cell? ⟨(ga + 1), 1, none⟩ = some (.slice pb nb cb) := HKB.out.cell 1
  have b2 : W3.cell? ⟨(ga + 1), 2, none⟩ = some (.slice none 0 0) := HKB.out.cell 2
  have HTR := Lib.hid (two_row (w := W3.alloc (.cells #[.int .i64 0, .slice pa na ca, .slice none 0 0, .int .i64 1, .slice pb nb cb, .slice none 0 0] 26)) X Y (Blk.new W3 #[.int .i64 0, .slice pa na ca, .slice none 0 0, .int .i64 1, .slice pb nb cb, .slice none 0 0] 26))
  have HB6 := Lib.hid (oneB W3 (.cells #[.int .i64 0, .slice pa na ca, .slice none 0 0, .int .i64 1, .slice pb nb cb, .slice none 0 0] 26))
  have hpair : [bkA pa na ca X, bkB pb nb cb Y].Pairwise (fun x y => x.me < y.me) := by simp [bkA, bkB]
  have hme : ∀ b ∈ [bkA pa na ca X, bkB pb nb cb Y], 0 ≤ b.me ∧ b.me < 8 := fun b hb => by simp only [List.mem_cons, List.not_mem_nil, or_false] at hb; rcases hb with rfl | rfl <;> simp [bkA, bkB]
  have HOA : Hid (∀ W, Below W3.heap.size W3 W → Calls Try.prog 17 #[.agg #[.int .i64 0, .slice pa na ca, .slice none 0 0], .int .i64 cur, .int .i64 (-1)] W fun e w' => e = .returned (.tuple #[.int .i64 (openS cur (bkA pa na ca X)), .int .i64 0]) ∧ Below W.heap.size W w') := fun W h => bk_open W cur (bkA pa na ca X) ((HIN3.out (bkA pa na ca X) (by simp)).kept h)
  have HOB : Hid (∀ W, Below W3.heap.size W3 W → Calls Try.prog 17 #[.agg #[.int .i64 1, .slice pb nb cb, .slice none 0 0], .int .i64 cur, .int .i64 (-1)] W fun e w' => e = .returned (.tuple #[.int .i64 (openS cur (bkB pb nb cb Y)), .int .i64 0]) ∧ Below W.heap.size W w') := fun W h => bk_open W cur (bkB pb nb cb Y) ((HIN3.out (bkB pb nb cb Y) (by simp)).kept h)
  have HM0 := Lib.hid (oneP_mid cur (bkA pa na ca X))
  have HM1 := Lib.hid (oneP_mid cur (bkB pb nb cb Y))
  by_cases hc : 0 ≤ cur ∧ cur < 8
  · have hc0 : 0 ≤ cur := hc.1
    have hc7 : cur ≤ 7 := by omega
    have HGR := Lib.hid (group_in _ cur _ _ HTR.out (fun b hb => (HIN3.out b hb).kept HB6.out) (by simp) hc hme hpair)
    rw [grpL_two] at HGR
    unfold vecV at HGR
    have hA0 := around0 cur (bkA pa na ca X) (bkB pb nb cb Y) (by simp [bkA, bkB])
    have hA1 := around1 cur (bkA pa na ca X) (bkB pb nb cb Y) (by simp [bkA, bkB])
    have hA2 := around2 cur 2 (bkA pa na ca X) (bkB pb nb cb Y) (by simp [bkA]) (by simp [bkB])
    have hlen : (oneP cur (bkA pa na ca X) ++ oneP cur (bkB pb nb cb Y)).length ≤ 1000 := by
      have := oneP_len cur (bkA pa na ca X)
      have := oneP_len cur (bkB pb nb cb Y)
      rw [List.length_append]; omega
    have HO0 := Lib.hid (fun W v (h : PRow W v _) => of_any W v _ _ _ _ 0 cur h hA0 hlen)
    have HO1 := Lib.hid (fun W v (h : PRow W v _) => of_any W v _ _ _ _ 1 cur h hA1 hlen)
    have HO2 := Lib.hid (fun W v (h : PRow W v _) => of_any W v _ _ _ _ 2 cur h hA2 hlen)
    rw [HM0.out] at HO0
    rw [HM1.out] at HO1
    unfold vecV at HO0 HO1 HO2
    clear hA0 hA1 hA2 hlen hpair hme hc HM0 HM1
    generalize openS cur (bkA pa na ca X) = SA at *
    generalize openS cur (bkB pb nb cb Y) = SB at *
    generalize oneP cur (bkA pa na ca X) ++ oneP cur (bkB pb nb cb Y) = L at *
    go_wp2_with fail
    generalize W3.alloc (.cells #[.int .i64 0, .slice pa na ca, .slice none 0 0, .int .i64 1, .slice pb nb cb, .slice none 0 0] 26) = W6 at *
    refine HGR.out.mono ?_
    rintro y w7 ⟨v7, rfl, hr7, hb7⟩
    obtain ⟨p7, c7, hv7⟩ := hr7.shape
    generalize L.length = nl at hv7
    subst hv7
    have HB7 := Lib.hid (HB6.out.trans (hb7.mono HB6.out.size))
    have HR7 := Lib.hid hr7
    clear hr7 hb7 HGR HTR HB6 a0 a1 a2 b0 b1 b2
    go_upto_region 7 with fail
    have HV := Lib.hid (Blk.new w7 #[.slice p7 nl c7] 50)
    have HBV := Lib.hid (HB7.out.trans ((oneB w7 (.cells #[.slice p7 nl c7] 50)).mono HB7.out.size))
    have HRV := Lib.hid (HR7.out.kept (oneB w7 (.cells #[.slice p7 nl c7] 50)))
    generalize w7.alloc (.cells #[.slice p7 nl c7] 50) = W8 at *
    generalize w7.heap.size = gv at *
    have HKA9 := Lib.hid (HKA.out.below HBV.out HKA.out.lt)
    have HKB9 := Lib.hid (HKB.out.below HBV.out HKB.out.lt)
    clear HB7 HR7
    have a0 : W8.cell? ⟨ga, 0, none⟩ = some (.int .i64 0) := HKA9.out.cell 0
    have a1 : W8.cell? ⟨ga, 1, none⟩ = some (.slice pa na ca) := HKA9.out.cell 1
    have a2 : W8.cell? ⟨ga, 2, none⟩ = some (.slice none 0 0) := HKA9.out.cell 2
    have b0 : W8.cell? ⟨(ga + 1), 0, none⟩ = some (.int .i64 1) := HKB9.out.cell 0
    have b1 : W8.cell? ⟨(ga + 1), 1, none⟩ = some (.slice pb nb cb) := HKB9.out.cell 1
    have b2 : W8.cell? ⟨(ga + 1), 2, none⟩ = some (.slice none 0 0) := HKB9.out.cell 2
    go_wp2_with fail
    refine (HOA.out W8 HBV.out).mono ?_
    rintro y wA ⟨rfl, hbA⟩
    have HBA := Lib.hid (HBV.out.trans (hbA.mono HBV.out.size))
    have HVA := Lib.hid (HV.out.below hbA HV.out.lt)
    have HRVA := Lib.hid (HRV.out.kept hbA)
    have HKBA := Lib.hid (HKB.out.below HBA.out HKB.out.lt)
    clear hbA a0 a1 a2 b0 b1 b2
    have b0 : wA.cell? ⟨ga + 1, 0, none⟩ = some (.int .i64 1) := HKBA.out.cell 0
    have b1 : wA.cell? ⟨ga + 1, 1, none⟩ = some (.slice pb nb cb) := HKBA.out.cell 1
    have b2 : wA.cell? ⟨ga + 1, 2, none⟩ = some (.slice none 0 0) := HKBA.out.cell 2
    go_wp2_with fail
    refine (HOB.out wA HBA.out).mono ?_
    rintro y wB ⟨rfl, hbB⟩
    have HBB := Lib.hid (HBA.out.trans (hbB.mono HBA.out.size))
    have HVB := Lib.hid (HVA.out.below hbB HVA.out.lt)
    have HRVB := Lib.hid (HRVA.out.kept hbB)
    clear hbB b0 b1 b2 HVA HRVA HKBA
    have v0 : wB.cell? ⟨gv, 0, none⟩ = some (.slice p7 nl c7) := HVB.out.cell 0
    have e00 : ((SA : Int) == SA) = true := by simp
    have e11 : ((SB : Int) == SB) = true := by simp
    go_wp2_with fail
    refine (HO0.out wB _ HRVB.out).mono ?_
    rintro y wC ⟨rfl, hbC⟩
    have HBC := Lib.hid (HBB.out.trans (hbC.mono HBB.out.size))
    have HVC := Lib.hid (HVB.out.below hbC HVB.out.lt)
    have HRVC := Lib.hid (HRVB.out.kept hbC)
    clear hbC v0
    have v0 : wC.cell? ⟨gv, 0, none⟩ = some (.slice p7 nl c7) := HVC.out.cell 0
    go_wp2_with fail
    refine (HO1.out wC _ HRVC.out).mono ?_
    rintro y wD ⟨rfl, hbD⟩
    have HBD := Lib.hid (HBC.out.trans (hbD.mono HBC.out.size))
    have HVD := Lib.hid (HVC.out.below hbD HVC.out.lt)
    have HRVD := Lib.hid (HRVC.out.kept hbD)
    clear hbD v0
    have v0 : wD.cell? ⟨gv, 0, none⟩ = some (.slice p7 nl c7) := HVD.out.cell 0
    go_wp2_with fail
    refine (HO2.out wD _ HRVD.out).mono ?_
    rintro y wE ⟨rfl, hbE⟩
    have HBE := Lib.hid (HBW.out.trans ((HBD.out.trans (hbE.mono HBD.out.size)).mono HBW.out.size))
    clear hbE v0
    rw [show midA [] = 0 from rfl]
    go_wp2_with fail
    go_ret
    exact ⟨rfl, HBE.out⟩
  · have hor : cur < 0 ∨ 8 ≤ cur := by omega
    have HGR := Lib.hid (group_out _ cur _ _ HTR.out (fun b hb => (HIN3.out b hb).kept HB6.out) (by simp) hor)
    have HLI := Lib.hid (fun W => list_any W (.slice none 0 0) [] (PRow.nil_ W) (by decide))
    unfold vecV at HGR HLI
    clear hpair hme HM0 HM1
    generalize openS cur (bkA pa na ca X) = SA at *
    generalize openS cur (bkB pb nb cb Y) = SB at *
    go_wp2_with fail
    generalize W3.alloc (.cells #[.int .i64 0, .slice pa na ca, .slice none 0 0, .int .i64 1, .slice pb nb cb, .slice none 0 0] 26) = W6 at *
    refine HGR.out.mono ?_
    rintro y w7 ⟨rfl, hb7⟩
    have HB7 := Lib.hid (HB6.out.trans (hb7.mono HB6.out.size))
    clear hb7 HGR HTR HB6 a0 a1 a2 b0 b1 b2
    go_upto_region 7 with fail
    have HV := Lib.hid (Blk.new w7 #[.slice none 0 0] 50)
    have HBV := Lib.hid (HB7.out.trans ((oneB w7 (.cells #[.slice none 0 0] 50)).mono HB7.out.size))
    have HRV := Lib.hid (PRow.nil_ (w7.alloc (.cells #[.slice none 0 0] 50)))
    generalize w7.alloc (.cells #[.slice none 0 0] 50) = W8 at *
    generalize w7.heap.size = gv at *
    have HKA9 := Lib.hid (HKA.out.below HBV.out HKA.out.lt)
    have HKB9 := Lib.hid (HKB.out.below HBV.out HKB.out.lt)
    clear HB7
    have a0 : W8.cell? ⟨ga, 0, none⟩ = some (.int .i64 0) := HKA9.out.cell 0
    have a1 : W8.cell? ⟨ga, 1, none⟩ = some (.slice pa na ca) := HKA9.out.cell 1
    have a2 : W8.cell? ⟨ga, 2, none⟩ = some (.slice none 0 0) := HKA9.out.cell 2
    have b0 : W8.cell? ⟨(ga + 1), 0, none⟩ = some (.int .i64 1) := HKB9.out.cell 0
    have b1 : W8.cell? ⟨(ga + 1), 1, none⟩ = some (.slice pb nb cb) := HKB9.out.cell 1
    have b2 : W8.cell? ⟨(ga + 1), 2, none⟩ = some (.slice none 0 0) := HKB9.out.cell 2
    go_wp2_with fail
    refine (HOA.out W8 HBV.out).mono ?_
    rintro y wA ⟨rfl, hbA⟩
    have HBA := Lib.hid (HBV.out.trans (hbA.mono HBV.out.size))
    have HVA := Lib.hid (HV.out.below hbA HV.out.lt)
    have HRVA := Lib.hid (HRV.out.kept hbA)
    have HKBA := Lib.hid (HKB.out.below HBA.out HKB.out.lt)
    clear hbA a0 a1 a2 b0 b1 b2
    have b0 : wA.cell? ⟨ga + 1, 0, none⟩ = some (.int .i64 1) := HKBA.out.cell 0
    have b1 : wA.cell? ⟨ga + 1, 1, none⟩ = some (.slice pb nb cb) := HKBA.out.cell 1
    have b2 : wA.cell? ⟨ga + 1, 2, none⟩ = some (.slice none 0 0) := HKBA.out.cell 2
    go_wp2_with fail
    refine (HOB.out wA HBA.out).mono ?_
    rintro y wB ⟨rfl, hbB⟩
    have HBB := Lib.hid (HBA.out.trans (hbB.mono HBA.out.size))
    have HVB := Lib.hid (HVA.out.below hbB HVA.out.lt)
    have HRVB := Lib.hid (HRVA.out.kept hbB)
    clear hbB b0 b1 b2 HVA HRVA HKBA
    have v0 : wB.cell? ⟨gv, 0, none⟩ = some (.slice none 0 0) := HVB.out.cell 0
    rcases hor with hneg | hbig
    · skip
      go_wp2_with fail
      refine (HLI.out wB).mono ?_
      rintro y wC ⟨vC, rfl, hoC, hbC⟩
      obtain ⟨pC, cC, hvC⟩ := hoC.form
      have hvC : vC = .slice pC 0 cC := hvC
      subst hvC
      have HBE := Lib.hid (HBW.out.trans ((HBB.out.trans (hbC.mono HBB.out.size)).mono HBW.out.size))
      clear hbC hoC v0
      go_wp2_with fail
      go_ret
      exact ⟨rfl, HBE.out⟩
    · have hnn : 0 ≤ cur := by omega
      have hb7' : 7 < cur := by omega
      go_wp2_with fail
      refine (HLI.out wB).mono ?_
      rintro y wC ⟨vC, rfl, hoC, hbC⟩
      obtain ⟨pC, cC, hvC⟩ := hoC.form
      have hvC : vC = .slice pC 0 cC := hvC
      subst hvC
      have HBE := Lib.hid (HBW.out.trans ((HBB.out.trans (hbC.mono HBB.out.size)).mono HBW.out.size))
      clear hbC hoC v0
      go_wp2_with fail
      go_ret
      exact ⟨rfl, HBE.out⟩
end Go.Proofs.Ytogfhijfpobhhaa
