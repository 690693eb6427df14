/- Vector.Plus by contract. -/
import Derived.Test.YtaooiejgigicoaaStepM
namespace Go.Proofs.Ytaooiejgigicoaa
open Go.RowKit
/-- The error's number of many steps: the first that there is. -/
def plusE (M : List Int) : List Pos → Int
  | [] => 0
  | p :: ps => if errM M p = 0 then plusE (stepM M p) ps else errM M p
theorem plusE_app : ∀ (ps qs : List Pos) (M : List Int), plusE M ps = 0 → plusE M (ps ++ qs) = plusE (ps.foldl stepM M) qs
  | [], _, _, _ => rfl
  | p :: ps, qs, M, h => by
    unfold plusE at h
    split at h
    · rename_i he
      show (if errM M p = 0 then plusE (stepM M p) (ps ++ qs) else errM M p) = _
      rw [if_pos he]
      exact plusE_app ps qs _ h
    · exact absurd h (by assumption)
theorem plusE_bad : ∀ (ps qs : List Pos) (M : List Int), plusE M ps ≠ 0 → plusE M (ps ++ qs) = plusE M ps
  | [], _, _, h => absurd rfl h
  | p :: ps, qs, M, h => by
    show (if errM M p = 0 then plusE (stepM M p) (ps ++ qs) else errM M p) = (if errM M p = 0 then plusE (stepM M p) ps else errM M p)
    split
    · rename_i he
      have h' : plusE (stepM M p) ps ≠ 0 := by
        intro h0
        apply h
        show (if errM M p = 0 then plusE (stepM M p) ps else errM M p) = 0
        rw [if_pos he]; exact h0
      exact plusE_bad ps qs _ h'
    · rfl
theorem fold_len : ∀ (ps : List Pos) (M : List Int), M.length = 64 → (ps.foldl stepM M).length = 64
  | [], _, h => h
  | p :: ps, _, h => fold_len ps _ (step_len p h)
theorem fold_64 : ∀ (ps : List Pos) (M : List Int), All64 M → All64 (ps.foldl stepM M)
  | [], _, h => h
  | p :: ps, _, h => fold_64 ps _ (step_64 p h)
theorem OwnP.setNe {w : World} {base : Nat} {e : TypeId} {v : Value} {ps : List Pos} (h : OwnP w base e v ps) {a : Addr} (ha : ∀ g, v.ownBlock = some g → g ≠ a.block) (u : Value) : OwnP (w.setCell a u) base e v ps := by
  refine ⟨h.1, ?_⟩
  rcases h.2 with h | ⟨g, cap, cur, rfl, hbg, hg, hr⟩
  · exact .inl h
  · exact .inr ⟨g, cap, cur, rfl, hbg, (Below.heap_setCell w a u g (ha g rfl)).trans hg, hr⟩
/-- What the loop keeps. -/
def VPlusRel (w : World) (B : Nat) (sv sw : Value) (cur : List Int) (wr : World) : Prop :=
  ∃ p n c, Blk wr B #[.slice p n c] 27 ∧ (OwnP wr (w.heap.size + 1 + 1 + 1) 49 (.slice p n c) (posOf cur) ∧ ∀ g, (Value.slice p n c).ownBlock = some g → g ≠ B) ∧ Blk wr w.heap.size #[sv] 27 ∧ Blk wr (w.heap.size + 1) #[sw] 27 ∧ Blk wr (w.heap.size + 1 + 1) #[.slice none 0 0] 27 ∧ Below w.heap.size w wr
theorem VPlusRel.kept {w wr w' : World} {B : Nat} {sv sw : Value} {cur : List Int} (h : VPlusRel w B sv sw cur wr) (hb : Below wr.heap.size wr w') : VPlusRel w B sv sw cur w' := by
  obtain ⟨p, n, c, h1, h2, h3, h4, h5, h6⟩ := h
  exact ⟨p, n, c, h1.below hb h1.lt, ⟨h2.1.later hb, h2.2⟩, h3.below hb h3.lt, h4.below hb h4.lt, h5.below hb h5.lt, h6.trans (hb.mono h6.size)⟩
theorem VPlusRel.store {w wr : World} {B base : Nat} {sv sw : Value} {cur cur2 : List Int} {p : Option Addr} {n c : Nat} (h : VPlusRel w B sv sw cur wr) (hB : w.heap.size + 1 + 1 < B) (hbase : B < base) (ho : OwnP wr base 49 (.slice p n c) (posOf cur2)) : VPlusRel w B sv sw cur2 (wr.setCell ⟨B, 0, none⟩ (.slice p n c)) := by
  obtain ⟨p0, n0, c0, h1, _, h3, h4, h5, h6⟩ := h
  have hne : ∀ g, (Value.slice p n c).ownBlock = some g → g ≠ B := fun g hg => by have := ho.block_ge g hg; omega
  exact ⟨p, n, c, h1.set 0 _, ⟨(ho.setNe hne _).less (by omega), hne⟩, h3.setOther (by dsimp only; omega) _, h4.setOther (by dsimp only; omega) _, h5.setOther (by dsimp only; omega) _, h6.setCell (p := ⟨B, 0, none⟩) (by dsimp only; omega) _⟩
set_option linter.unusedSimpArgs false in
set_option maxHeartbeats 8000000 in
set_option maxRecDepth 100000 in
theorem vplus_any (w : World) (v u : Value) (M N : List Int) (hM : M.length = 64) (hM64 : All64 M) (hN64 : All64 N) (hv : PRow w v (posOf M)) (hu : PRow w u (posOf N)) :
    Calls Try.prog 11 #[vecV v, vecV u] w fun x w' => ∃ v', x = .returned (.tuple #[vecV v', .int .i64 (plusE M (posOf N))]) ∧ OwnP w' w.heap.size 49 v' (posOf (if plusE M (posOf N) = 0 then (posOf N).foldl stepM M else M)) ∧ Below w.heap.size w w' := by
  have HM := Lib.hid hM
  have HM64 := Lib.hid hM64
  have HFA : Hid (∀ p ∈ posOf N, Fits p.a) := fun p hp => by
    rw [(posOf_mem hp).2.2.1]
    exact atM_fits hN64 _
  obtain ⟨pv, cv, rfl⟩ := hv.shape
  obtain ⟨pu, cu, rfl⟩ := hu.shape
  have HV := Lib.hid hv
  have HU := Lib.hid hu
  have hnu : (posOf N).length ≤ 64 := posOf_length N
  clear hM hM64 hN64 hv hu
  generalize hV : posOf M = VL at *
  have HVL := Lib.hid hV
  generalize posOf N = UL at *
  generalize hnv : VL.length = nv at *
  generalize hnn : UL.length = nu at *
  have HNV := Lib.hid hnv
  have HNU := Lib.hid hnn
  have HV64 : Hid (nv ≤ 1000) := by show nv ≤ 1000; rw [← HNV.out, ← HVL.out]; exact Nat.le_trans (posOf_length M) (by omega)
  clear hnv hnn hV
  have hB0 : Below w.heap.size w (((w.alloc (.cells #[.slice pv nv cv] 27)).alloc (.cells #[.slice pu nu cu] 27)).alloc (.cells #[.slice none 0 0] 27)) := ((oneB w _).alloc (by simp) _).alloc (by simp <;> omega) _
  have hR0 : Blk (((w.alloc (.cells #[.slice pv nv cv] 27)).alloc (.cells #[.slice pu nu cu] 27)).alloc (.cells #[.slice none 0 0] 27)) (w.heap.size + 1 + 1) #[.slice none 0 0] 27 := Blk.new' _ _ _ (by simp)
  have hU0 : Blk (((w.alloc (.cells #[.slice pv nv cv] 27)).alloc (.cells #[.slice pu nu cu] 27)).alloc (.cells #[.slice none 0 0] 27)) (w.heap.size + 1) #[.slice pu nu cu] 27 := (Blk.new' _ _ _ (by simp)).alloc _
  have hV0 : Blk (((w.alloc (.cells #[.slice pv nv cv] 27)).alloc (.cells #[.slice pu nu cu] 27)).alloc (.cells #[.slice none 0 0] 27)) w.heap.size #[.slice pv nv cv] 27 := ((Blk.new w _ _).alloc _).alloc _
  have HB0 := Lib.hid hB0
  have HR0 := Lib.hid hR0
  have HU0 := Lib.hid hU0
  have HV0 := Lib.hid hV0
  have HCL := Lib.hid (fun (W : World) (h : Below w.heap.size w W) => clone_vec W (.slice pv nv cv) VL (HV.out.kept h) (by rw [HNV.out]; exact HV64.out))
  clear hB0 hR0 hU0 hV0
  generalize hres : (if plusE M UL = 0 then UL.foldl stepM M else M) = RES
  have HRES := Lib.hid hres
  clear hres
  generalize hpe : plusE M UL = PE
  have HPEQ := Lib.hid hpe
  clear hpe
  unfold vecV at *
  go_enter Try.func11, Try.ntmps11
  go_wp2_with fail
  refine (HCL.out _ HB0.out).mono ?_
  rintro y w1 ⟨v1, rfl, ho1, hb1⟩
  obtain ⟨p1, c1, hv1⟩ := ho1.form
  rw [HNV.out] at hv1
  subst hv1
  have hB : w.heap.size + 1 + 1 < w1.heap.size := Nat.lt_of_lt_of_le HR0.out.lt hb1.size
  have HREL : Hid (VPlusRel w w1.heap.size (.slice pv nv cv) (.slice pu nu cu) M (w1.alloc (.cells #[.slice p1 nv c1] 27))) := by
    have hown : OwnP (w1.alloc (.cells #[.slice p1 nv c1] 27)) (w.heap.size + 1 + 1 + 1) 49 (.slice p1 nv c1) (posOf M) := by rw [HVL.out]; exact (ho1.later (oneB w1 _)).less (by simp)
    have hlow := ho1.lt
    exact ⟨p1, nv, c1, Blk.new w1 _ _, ⟨hown, fun g hg => by have := hlow g hg; omega⟩, (HV0.out.below hb1 HV0.out.lt).alloc _, (HU0.out.below hb1 HU0.out.lt).alloc _, (HR0.out.below hb1 HR0.out.lt).alloc _, (HB0.out.trans (hb1.mono HB0.out.size)).alloc (HB0.out.trans (hb1.mono HB0.out.size)).size _⟩
  have HBB := Lib.hid hB
  have hu1 := HU0.out.below hb1 HU0.out.lt
  have u0 : w1.cell? ⟨w.heap.size + 1, 0, none⟩ = some (.slice pu nu cu) := hu1.cell 0
  have lu := hu1.lt
  clear ho1 hb1 hB hu1
  go_wp2_with fail
  clear u0 lu
  generalize w1.heap.size = B at *
  go_loopw [7, 15] (fun e i wr => ∃ k : Nat, k ≤ nu ∧ i = .int .i64 k ∧ e = .int .i64 0 ∧ Hid (plusE M (UL.take k) = 0) ∧ Hid (VPlusRel w B (.slice pv nv cv) (.slice pu nu cu) ((UL.take k).foldl stepM M) wr)) (fun _ i _ => nu - (intOf i).toNat)
  case atStart => exact ⟨0, by omega, rfl, rfl, (rfl : plusE M [] = 0), HREL⟩
  case round =>
    obtain ⟨k, hk, rfl, rfl, HE, HK⟩ := hrel
    clear HREL
    by_cases hlt : k < nu
    · have hkl : k < UL.length := by rw [HNU.out]; exact hlt
      have hltI : (k : Int) < (nu : Int) := by omega
      have HTK : Hid (UL.take (k + 1) = UL.take k ++ [UL[k]]) := List.take_succ_eq_append_getElem hkl
      have HSP : Hid (UL = UL.take k ++ (UL[k] :: UL.drop (k + 1))) := by show _ = _; rw [← List.drop_eq_getElem_cons hkl, List.take_append_drop]
      obtain ⟨p2, n2, c2, hb2, ho2, hv2, hu2, hr2, hw2⟩ := HK.out
      obtain ⟨b, o, rfl, hbl, e0, e1, e2⟩ := (HU.out.kept hw2).at_ k hkl
      have hfa := HFA.out UL[k] (List.getElem_mem hkl)
      generalize UL[k] = P at *
      obtain ⟨e, c, a⟩ := P
      dsimp only at e0 e1 e2 hfa
      have hlen := fold_len (UL.take k) M HM.out
      have h64 := fold_64 (UL.take k) M HM64.out
      have HST : Hid ((UL.take (k + 1)).foldl stepM M = stepM ((UL.take k).foldl stepM M) ⟨e, c, a⟩) := by
        show _ = _
        rw [HTK.out, List.foldl_append]; rfl
      have HPE : Hid (plusE M (UL.take (k + 1)) = plusE ((UL.take k).foldl stepM M) [⟨e, c, a⟩]) := by
        show _ = _
        rw [HTK.out]; exact plusE_app _ _ _ HE.out
      have HPF : Hid (plusE M UL = plusE ((UL.take k).foldl stepM M) (⟨e, c, a⟩ :: UL.drop (k + 1))) := by
        show _ = _
        conv => lhs; rw [HSP.out]
        exact plusE_app _ _ _ HE.out
      generalize (UL.take k).foldl stepM M = cur at *
      have HAD := Lib.hid (vadd_step (wr.alloc (.cells #[.int .i64 e, .int .i64 c, .int .i64 a] 49)) (.slice p2 n2 c2) cur e c a hlen h64 (ho2.1.row.kept (oneB wr _)) hfa)
      unfold vecV at HAD
      have t0 : wr.cell? ⟨B, 0, none⟩ = some (.slice p2 n2 c2) := hb2.cell 0
      have lt0 := hb2.lt
      have HKA := Lib.hid (HK.out.kept (oneB wr (.cells #[.int .i64 e, .int .i64 c, .int .i64 a] 49)))
      have HSZ : Hid (B < (wr.alloc (.cells #[.int .i64 e, .int .i64 c, .int .i64 a] 49)).heap.size) := Nat.lt_of_lt_of_le lt0 (by simp)
      clear hb2 ho2 hv2 hu2 hr2 hw2 hfa hlen h64 HK HTK HSP
      go_wp2_with fail
      refine HAD.out.mono ?_
      rintro y w3 ⟨v3, rfl, ho3, hb3⟩
      obtain ⟨p3, c3, hv3⟩ := ho3.form
      generalize (posOf (stepM cur ⟨e, c, a⟩)).length = n3 at hv3
      subst hv3
      have HK3 := Lib.hid ((HKA.out.kept hb3).store HBB.out HSZ.out ho3)
      obtain ⟨_, _, _, hb4, _⟩ := HKA.out.kept hb3
      have t1 := hb4.cell 0
      have tf := hb4.free 0
      have tl := hb4.lt
      clear ho3 hb3 hb4 t0 lt0 e0 e1 e2 HAD HKA
      by_cases herr : errM cur ⟨e, c, a⟩ = 0
      · have HPE2 : Hid (plusE M (UL.take (k + 1)) = 0) := by
          show _ = _
          rw [HPE.out]
          show (if errM cur ⟨e, c, a⟩ = 0 then plusE (stepM cur ⟨e, c, a⟩) [] else errM cur ⟨e, c, a⟩) = 0
          rw [if_pos herr]; rfl
        rw [← HST.out] at HK3
        rw [herr]
        clear herr
        go_wp2_with fail
        go_roundw
        case rel => exact ⟨k + 1, by omega, by go_num, rfl, HPE2, HK3⟩
        case measure => simp [intOf]; omega
      · have HPE2 : Hid (plusE M UL = errM cur ⟨e, c, a⟩) := by
          show _ = _
          rw [HPF.out]
          show (if errM cur ⟨e, c, a⟩ = 0 then plusE (stepM cur ⟨e, c, a⟩) (UL.drop (k + 1)) else errM cur ⟨e, c, a⟩) = _
          rw [if_neg herr]
        have hE : (errM cur ⟨e, c, a⟩ != 0) = true := by simpa using herr
        have HNE := Lib.hid herr
        generalize errM cur ⟨e, c, a⟩ = er at *
        clear herr
        go_wp2_with (with_reducible refine stop_load 27 (.tmp 2) rfl ?_)
        generalize w3.setCell ⟨B, 0, none⟩ (.slice p3 n3 c3) = w4 at *
        obtain ⟨_, _, _, _, _, hv4, _, hr4, hw4⟩ := HK3.out
        have HW4 := Lib.hid hw4
        have HR4 := Lib.hid hr4
        have s0 : w4.cell? ⟨w.heap.size, 0, none⟩ = some (.slice pv nv cv) := hv4.cell 0
        have ls := hv4.lt
        clear hv4 hr4 hw4 t1 tf tl
        refine Lib.hid ?_
        go_wp2_with fail
        refine (HCL.out _ HW4.out).mono ?_
        rintro y w5 ⟨v5, rfl, ho5, hb5⟩
        obtain ⟨p5, c5, hv5⟩ := ho5.form
        generalize VL.length = n5 at hv5
        subst hv5
        have hr5 := HR4.out.below hb5 HR4.out.lt
        have HR5 := Lib.hid hr5
        have r0 : w5.cell? ⟨w.heap.size + 1 + 1, 0, none⟩ = some (.slice none 0 0) := hr5.cell 0
        have rf := hr5.free 0
        have rl := hr5.lt
        have HO5 := Lib.hid ho5
        have HB5 := Lib.hid (HW4.out.trans (hb5.mono HW4.out.size))
        have HLT := Lib.hid HR4.out.lt
        clear ho5 hb5 hr5
        go_wp2_with fail
        have hf := HR5.out.set 0 (.slice p5 n5 c5)
        refine bodyPost_ret (v := .tuple #[.agg #[.slice p5 n5 c5], .int .i64 er]) (by simp [results, Try.results11, go_sem, hf.cell 0]) rfl ⟨_, by rw [← HPEQ.out, HPE2.out], ?_, HB5.out.setCell (p := ⟨w.heap.size + 1 + 1, 0, none⟩) (by dsimp only; omega) _⟩
        rw [← HRES.out, HPE2.out, if_neg HNE.out, HVL.out]
        exact (HO5.out.setLow (show w.heap.size + 1 + 1 < _ from HLT.out) _).less (Nat.le_trans (by omega) (Nat.le_of_lt HLT.out))
    · have hle : (nu : Int) ≤ (k : Int) := by omega
      have hkn : k = UL.length := by rw [HNU.out]; omega
      have hE := HE.out
      have hK := HK.out
      rw [hkn, List.take_length] at hE hK
      have HE2 := Lib.hid hE
      have HKX := Lib.hid hK
      clear hE hK hkn HE HK
      obtain ⟨p2, n2, c2, hb2, ho2, _, _, hr2, hw2⟩ := HKX.out
      have t0 : wr.cell? ⟨B, 0, none⟩ = some (.slice p2 n2 c2) := hb2.cell 0
      have lt0 := hb2.lt
      have r0 : wr.cell? ⟨w.heap.size + 1 + 1, 0, none⟩ = some (.slice none 0 0) := hr2.cell 0
      have rf := hr2.free 0
      have rl := hr2.lt
      have HR2 := Lib.hid hr2
      have HO2 := Lib.hid ho2
      have HW2 := Lib.hid hw2
      clear hb2 ho2 hr2 hw2
      go_wp2_with fail
      have hf := HR2.out.set 0 (.slice p2 n2 c2)
      refine bodyPost_ret (v := .tuple #[.agg #[.slice p2 n2 c2], .int .i64 0]) (by simp [results, Try.results11, go_sem, hf.cell 0]) rfl ⟨_, by rw [← HPEQ.out, HE2.out], ?_, HW2.out.setCell (p := ⟨w.heap.size + 1 + 1, 0, none⟩) (by dsimp only; omega) _⟩
      rw [← HRES.out, HE2.out, if_pos rfl]
      exact (HO2.out.1.setLow (show w.heap.size + 1 + 1 < _ by omega) _).less (by omega)
end Go.Proofs.Ytaooiejgigicoaa
