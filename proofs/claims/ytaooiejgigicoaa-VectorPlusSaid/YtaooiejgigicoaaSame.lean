/- contralaw02.same by contract. -/
import Derived.Test.YtaooiejgigicoaaVecAdd
namespace Go.Proofs.Ytaooiejgigicoaa
open Go.RowKit
def mCells (M : List Int) : Array Value := (M.map (Value.int .i64)).toArray
theorem mCells_size (M : List Int) : (mCells M).size = M.length := by simp [mCells]
theorem mCells_get (M : List Int) (k : Nat) (h : k < M.length) : (mCells M)[k]? = some (.int .i64 (atM M k)) := by
  unfold mCells atM
  rw [List.getElem?_toArray, List.getElem?_map, List.getD_eq_getElem?_getD, List.getElem?_eq_getElem h]
  rfl
/-- What the loops have found so far. -/
def SameRel (w : World) (M : List Int) (k : Nat) (v : Value) (wr : World) : Prop := OwnP wr w.heap.size 49 v (preP M k) ∧ Below w.heap.size w wr
theorem preP_succ (M : List Int) (k : Nat) : preP M (k + 1) = preP M k ++ midP M k := by
  unfold preP midP
  rw [List.range_succ, List.filterMap_append]
  congr 1
theorem preP_len (M : List Int) (k : Nat) : (preP M k).length ≤ k := by
  unfold preP
  have := List.length_filterMap_le (pM M) (List.range k)
  rwa [List.length_range] at this
theorem mid_A (M : List Int) (k : Nat) : midA (midP M k) = atM M k := by
  rcases mid_val M k with ⟨h, g⟩ | ⟨h, _⟩
  · rw [h, g]; rfl
  · rw [h]; rfl
set_option linter.unusedSimpArgs false in
set_option maxHeartbeats 8000000 in
set_option maxRecDepth 100000 in
theorem same_any (w : World) (v : Value) (M : List Int) (hM : M.length = 64) (hr : PRow w v (posOf M)) :
    Calls Try.prog 13 #[vecV v, .agg (mCells M)] w fun x w' => x = .returned (.bool true) ∧ Below w.heap.size w w' := by
  obtain ⟨pv, cv, rfl⟩ := hr.shape
  have HMC := Lib.hid (fun (k : Nat) (h : k < 64) => mCells_get M k (by omega))
  have hsz : (mCells M).size = 64 := by rw [mCells_size, hM]
  have HR := Lib.hid hr
  have HSZ := Lib.hid hsz
  clear hr hM
  generalize hC : mCells M = C at *
  clear hC
  unfold vecV
  go_enter Try.func13, Try.ntmps13
  go_wp2_with fail
  generalize hW1 : (w.alloc (.cells #[.slice pv (posOf M).length cv] 27)).alloc (.cells C 30) = W1
  have hB1 : Below w.heap.size w W1 := by rw [← hW1]; exact (oneB w _).alloc (by simp) _
  have hV1 : Blk W1 w.heap.size #[.slice pv (posOf M).length cv] 27 := by rw [← hW1]; exact (Blk.new w _ _).alloc _
  have hC1 : Blk W1 (w.heap.size + 1) C 30 := by rw [← hW1]; exact Blk.new' _ _ _ (by simp)
  have HB1 := Lib.hid hB1
  have HV1 := Lib.hid hV1
  have HC1 := Lib.hid hC1
  have HR0 : Hid (SameRel W1 M 0 (.slice none 0 0) W1) := ⟨OwnP.nil_ _ _ _, Below.refl _ _⟩
  clear hW1 hB1 hV1 hC1
  go_loopw [5, 10] (fun v5 i wr => ∃ k : Nat, k ≤ 8 ∧ i = .int .i64 k ∧ Hid (SameRel W1 M (8 * k) v5 wr)) (fun _ i _ => 8 - (intOf i).toNat)
  case atStart => exact ⟨0, by omega, rfl, HR0⟩
  case round =>
    obtain ⟨k, hk, rfl, HK⟩ := hrel
    by_cases hlt : (k : Int) < 8
    · go_wp2_with fail
      go_loopw [5, 13] (fun v5 i wr => ∃ j : Nat, j ≤ 8 ∧ i = .int .i64 j ∧ Hid (SameRel W1 M (8 * k + j) v5 wr)) (fun _ i _ => 8 - (intOf i).toNat)
      case atStart => exact ⟨0, by omega, rfl, HK⟩
      case round =>
        obtain ⟨j, hj, rfl, HJ⟩ := hrel
        by_cases hlt2 : (j : Int) < 8
        · skip
          -- BODY
          have hK : 8 * k + j < 64 := by omega
          have hA := around_posOf M (8 * k + j) hK 0
          rw [show (8 * k + j) / 8 = k by omega, show (8 * k + j) % 8 = j by omega] at hA
          have hpos : midP M (8 * k + j) = if atM M (8 * k + j) = 0 then [] else [⟨k, j, atM M (8 * k + j)⟩] := by
            unfold midP pM
            rw [show (8 * k + j) / 8 = k by omega, show (8 * k + j) % 8 = j by omega]
            split <;> rfl
          have HSUC : Hid (preP M (8 * k + (j + 1)) = preP M (8 * k + j) ++ midP M (8 * k + j)) := preP_succ M (8 * k + j)
          have HPL : Hid ((preP M (8 * k + j)).length ≤ 64) := Nat.le_trans (preP_len M _) (by omega)
          have HOF := Lib.hid (fun (W' : World) (hb : Below W1.heap.size W1 W') => of_any W' (.slice pv (posOf M).length cv) (posOf M) _ _ _ k j (HR.out.kept (HB1.out.trans (hb.mono HB1.out.size))) hA (Nat.le_trans (posOf_length M) (by omega)))
          rw [mid_A] at HOF
          have hc := HMC.out (8 * k + j) hK
          rw [show 8 * k + j = k * 8 + j by omega] at hc
          rw [show 8 * k + j = k * 8 + j by omega] at HOF HSUC hpos HPL
          have HJ2 := HJ.out
          rw [show 8 * k + j = k * 8 + j by omega] at HJ2
          generalize hx : atM M (k * 8 + j) = x at *
          rw [hpos] at HSUC
          obtain ⟨ho5, hb5⟩ := HJ2
          obtain ⟨p5, c5, hv5⟩ := ho5.form
          generalize (preP M (k * 8 + j)).length = n5 at hv5
          subst hv5
          have hv := HV1.out.below hb5 HV1.out.lt
          have hm := HC1.out.below hb5 HC1.out.lt
          have v0 : wr.cell? ⟨w.heap.size, 0, none⟩ = some (.slice pv (posOf M).length cv) := hv.cell 0
          have m0 : wr.cell? ⟨w.heap.size + 1, k * 8 + j, none⟩ = some (.int .i64 x) := (hm.cell (k * 8 + j)).trans hc
          have lv := hv.lt
          have lm := hm.lt
          have hS1 : wr.drew.cell? ⟨w.heap.size, 0, none⟩ = some (.slice pv (posOf M).length cv) ∧ wr.drew.cell? ⟨w.heap.size + 1, k * 8 + j, none⟩ = some (.int .i64 x) := ⟨v0, m0⟩
          have HS : Hid (∀ w', Below wr.heap.size wr w' → w'.cell? ⟨w.heap.size, 0, none⟩ = some (.slice pv (posOf M).length cv) ∧ w'.cell? ⟨w.heap.size + 1, k * 8 + j, none⟩ = some (.int .i64 x)) := fun w' h => ⟨(h.cell (p := ⟨w.heap.size, 0, none⟩) lv).trans v0, (h.cell (p := ⟨w.heap.size + 1, _, none⟩) lm).trans m0⟩
          have HO5 := Lib.hid ho5
          have HB5 := Lib.hid hb5
          have hk8 : (k : Int) < 8 := hlt
          unfold vecV at HOF
          clear HJ hA hpos hc hx ho5 hb5 hv hm v0 m0
          go_wp2_with fail
          refine wp_region_held_drew (S := fun w' => w'.cell? ⟨w.heap.size, 0, none⟩ = some (.slice pv (posOf M).length cv) ∧ w'.cell? ⟨w.heap.size + 1, k * 8 + j, none⟩ = some (.int .i64 x)) (by kernel_rfl) hS1 (fun hS0 => ?_)
          refine wpAnyH_take (i := 0) (v := ?_) rfl (by kernel_rfl) (by kernel_rfl) (by kernel_rfl) (fun _ _ _ h => h) (Or.inl ⟨by kernel_rfl, ?_⟩) (by first | assumption | trivial) ?_
          rotate_left
          · intro w hSw
            try dsimp only at hSw
            first | (go_simp; done) | (go_simp; with_reducible rfl)
          try simp only [Act.put, List.getElem_toArray, List.getElem_cons_succ, List.getElem_cons_zero, List.setIfInBounds_toArray, List.set_cons_zero, List.set_cons_succ]
          refine wpAnyH_take (i := 1) (v := ?_) rfl (by kernel_rfl) (by kernel_rfl) (by kernel_rfl) (fun _ _ _ h => h) (Or.inl ⟨by kernel_rfl, ?_⟩) (by first | assumption | trivial) ?_
          rotate_left
          · intro w hSw
            try dsimp only at hSw
            first | (go_simp; done) | (go_simp; with_reducible rfl)
          try simp only [Act.put, List.getElem_toArray, List.getElem_cons_succ, List.getElem_cons_zero, List.setIfInBounds_toArray, List.set_cons_zero, List.set_cons_succ]
          refine wpAnyH_take (i := 2) (v := ?_) rfl (by kernel_rfl) (by kernel_rfl) (by kernel_rfl) (fun _ _ _ h => h) (Or.inl ⟨by kernel_rfl, ?_⟩) (by first | assumption | trivial) ?_
          rotate_left
          · intro w hSw
            try dsimp only at hSw
            first | (go_simp; done) | (go_simp; with_reducible rfl)
          try simp only [Act.put, List.getElem_toArray, List.getElem_cons_succ, List.getElem_cons_zero, List.setIfInBounds_toArray, List.set_cons_zero, List.set_cons_succ]
          refine wpAnyH_take (i := 4) (v := ?_) rfl (by kernel_rfl) (by kernel_rfl) (by kernel_rfl) (fun _ _ _ h => h) (Or.inl ⟨by kernel_rfl, ?_⟩) (by first | assumption | trivial) ?_
          rotate_left
          · intro w hSw
            try dsimp only at hSw
            first | (go_simp; done) | (go_simp; with_reducible rfl)
          try simp only [Act.put, List.getElem_toArray, List.getElem_cons_succ, List.getElem_cons_zero, List.setIfInBounds_toArray, List.set_cons_zero, List.set_cons_succ]
          refine wpAnyH_take (i := 5) (v := ?_) rfl (by kernel_rfl) (by kernel_rfl) (by kernel_rfl) (fun _ _ _ h => h) (Or.inl ⟨by kernel_rfl, ?_⟩) (by first | assumption | trivial) ?_
          rotate_left
          · intro w hSw
            try dsimp only at hSw
            first | (go_simp; done) | (go_simp; with_reducible rfl)
          try simp only [Act.put, List.getElem_toArray, List.getElem_cons_succ, List.getElem_cons_zero, List.setIfInBounds_toArray, List.set_cons_zero, List.set_cons_succ]
          refine wpAnyH_take (i := 6) (v := ?_) rfl (by kernel_rfl) (by kernel_rfl) (by kernel_rfl) (fun _ _ _ h => h) (Or.inl ⟨by kernel_rfl, ?_⟩) (by first | assumption | trivial) ?_
          rotate_left
          · intro w hSw
            try dsimp only at hSw
            first | (go_simp; done) | (go_simp; with_reducible rfl)
          try simp only [Act.put, List.getElem_toArray, List.getElem_cons_succ, List.getElem_cons_zero, List.setIfInBounds_toArray, List.set_cons_zero, List.set_cons_succ]
          refine wpAnyH_take (i := 7) (v := ?_) rfl (by kernel_rfl) (by kernel_rfl) (by kernel_rfl) (fun _ _ _ h => h) (Or.inl ⟨by kernel_rfl, ?_⟩) (by first | assumption | trivial) ?_
          rotate_left
          · intro w hSw
            try dsimp only at hSw
            first | (go_simp; done) | (go_simp; with_reducible rfl)
          try simp only [Act.put, List.getElem_toArray, List.getElem_cons_succ, List.getElem_cons_zero, List.setIfInBounds_toArray, List.set_cons_zero, List.set_cons_succ]
          refine wpAnyH_take (i := 8) (v := ?_) rfl (by kernel_rfl) (by kernel_rfl) (by kernel_rfl) (fun _ _ _ h => h) (Or.inl ⟨by kernel_rfl, ?_⟩) (by first | assumption | trivial) ?_
          rotate_left
          · intro w hSw
            try dsimp only at hSw
            first | (go_simp; done) | (go_simp; with_reducible rfl)
          try simp only [Act.put, List.getElem_toArray, List.getElem_cons_succ, List.getElem_cons_zero, List.setIfInBounds_toArray, List.set_cons_zero, List.set_cons_succ]
          refine wpAnyH_ready (rs := [3]) (by kernel_rfl) (by simp) ?_
          refine AllReadyH.cons rfl (fun K hK => ?_) AllReadyH.nil
          go_simp
          go_at_call 10
          refine (HOF.out wr.drew HB5.out.drew).mono ?_
          rintro y w2 ⟨rfl, hb2⟩
          have HB2 := Lib.hid ((Below.refl wr.heap.size wr).drew.trans (hb2.mono (Nat.le_refl _)))
          clear hb2
          try go_wp2_with fail
          refine hK.out _ _ (HS.out w2 HB2.out) (fun hS => ?_)
          clear hK K
          try simp only [Act.put, List.getElem_toArray, List.getElem_cons_succ, List.getElem_cons_zero, List.setIfInBounds_toArray, List.set_cons_zero, List.set_cons_succ]
          refine wpAnyH_take (i := 9) (v := ?_) rfl (by kernel_rfl) (by kernel_rfl) (by kernel_rfl) (fun _ _ _ h => h) (Or.inl ⟨by kernel_rfl, ?_⟩) (by first | assumption | trivial) ?_
          rotate_left
          · intro w hSw
            try dsimp only at hSw
            first | (go_simp; done) | (go_simp; with_reducible rfl)
          try simp only [Act.put, List.getElem_toArray, List.getElem_cons_succ, List.getElem_cons_zero, List.setIfInBounds_toArray, List.set_cons_zero, List.set_cons_succ]
          refine wpAnyH_done (by kernel_rfl) ?_ _
          obtain ⟨q0, q1⟩ := HS.out w2 HB2.out
          have HO6 := Lib.hid (HO5.out.later HB2.out)
          have HB6 := Lib.hid (HB5.out.trans (HB2.out.mono HB5.out.size))
          by_cases hx0 : x = 0
          · subst hx0
            have HN : Hid (SameRel W1 M (8 * k + (j + 1)) (.slice p5 n5 c5) w2) := by
              refine ⟨?_, HB6.out⟩
              have h := HSUC.out
              rw [if_pos rfl, List.append_nil] at h
              rw [h]; exact HO6.out
            go_wp2_with fail
            go_roundw
            case rel => exact ⟨j + 1, by omega, by go_num, HN⟩
            case measure => simp [intOf]; omega
          · have hxb : (x != 0) = true := by simpa using hx0
            have HSU : Hid (preP M (k * 8 + j) ++ [⟨k, j, x⟩] = preP M (8 * k + (j + 1))) := by
              show _ = _
              rw [HSUC.out, if_neg hx0]
            clear hx0
            go_wp2_with (at_builtin; go_loud (refine wpList_append_pos rfl _ _ 25 rfl 49 W1.heap.size elt_pos _ _ (preP M (k * 8 + j)) [⟨k, j, x⟩] rfl rfl (HO6.out.later (oneB w2 _)) (one_row w2 ⟨k, j, x⟩ _) (by have h : _ ≤ _ := HPL.out; simp; omega) (by have := HB6.out.size; simp; omega) (preP M (8 * k + (j + 1))) (preP M (8 * k + (j + 1))).length HSU.out rfl ?_; intro p7 c7 w7 ho7 hb7; have HN := Lib.hid (show SameRel W1 M (8 * k + (j + 1)) _ w7 from ⟨ho7, (HB6.out.alloc HB6.out.size _).trans hb7⟩); clear ho7 hb7))
            go_roundw
            case rel => exact ⟨j + 1, by omega, by go_num, HN⟩
            case measure => simp [intOf]; omega
        · have hj8 : j = 8 := by omega
          subst hj8
          go_wp2_with fail
          go_roundw
          case rel => exact ⟨k + 1, by omega, by go_num, HJ⟩
          case measure => simp [intOf]; omega
    · have hk8 : k = 8 := by omega
      subst hk8
      obtain ⟨ho5, hb5⟩ := HK.out
      have hall : preP M (8 * 8) = posOf M := rfl
      rw [hall] at ho5
      have HO5 := Lib.hid ho5
      have HB5 := Lib.hid hb5
      have hv := HV1.out.below hb5 HV1.out.lt
      have v0 : wr.cell? ⟨w.heap.size, 0, none⟩ = some (.slice pv (posOf M).length cv) := hv.cell 0
      have HL := Lib.hid (list_any wr (.slice pv (posOf M).length cv) (posOf M) (HR.out.kept (HB1.out.trans (hb5.mono HB1.out.size))) (Nat.le_trans (posOf_length M) (by omega)))
      unfold vecV at HL
      obtain ⟨p5, c5, hv5⟩ := HO5.out.form
      subst hv5
      clear ho5 hb5 hv hall HK
      have hn64 := posOf_length M
      generalize hps : posOf M = ps at *
      generalize hnl : ps.length = n at *
      have HNL := Lib.hid hnl
      clear hps hnl
      go_wp2_with fail
      refine HL.out.mono ?_
      rintro y w3 ⟨v3, rfl, ho3, hb3⟩
      obtain ⟨p3, c3, hv3⟩ := ho3.form
      rw [HNL.out] at hv3
      subst hv3
      have HR3 := Lib.hid ho3.row
      have HR5 := Lib.hid (HO5.out.row.kept hb3)
      have HB3 := Lib.hid (HB1.out.trans ((HB5.out.trans (hb3.mono HB5.out.size)).mono HB1.out.size))
      clear ho3 hb3 v0
      go_wp2_with fail
      go_loopw [54] (fun i wr => ∃ k : Nat, k ≤ n ∧ i = .int .i64 k ∧ Hid (Below w3.heap.size w3 wr)) (fun i _ => n - (intOf i).toNat)
      case atStart => exact ⟨0, by omega, rfl, Lib.hid (Below.refl w3.heap.size w3)⟩
      case round =>
        obtain ⟨k, hk, rfl, HK⟩ := hrel
        by_cases hlt : k < n
        · obtain ⟨b, o, rfl, _, a0, a1, a2⟩ := (HR3.out.kept HK.out).at_ k (by rw [HNL.out]; exact hlt)
          obtain ⟨b', o', rfl, _, e0, e1, e2⟩ := (HR5.out.kept HK.out).at_ k (by rw [HNL.out]; exact hlt)
          have hkl : k < ps.length := by rw [HNL.out]; exact hlt
          generalize ps[k].e = x0 at *
          generalize ps[k].c = x1 at *
          generalize ps[k].a = x2 at *
          have hkn : (k : Int) < (n : Int) := by omega
          go_wp2_with fail
          have HBN := Lib.hid HK.out.drew
          go_region
          go_wp2_with fail
          go_roundw
          case rel => exact ⟨k + 1, by omega, by go_num, HBN⟩
          case measure => simp [intOf]; omega
        · have hkn : (n : Int) ≤ (k : Int) := by omega
          go_wp2_with fail
          go_ret
          exact ⟨rfl, HB3.out.trans (HK.out.mono HB3.out.size)⟩
end Go.Proofs.Ytaooiejgigicoaa
