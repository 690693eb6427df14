/- slices.Equal of numbers, cycle.net, Nets, Right by contract. -/
import Derived.Test.YteofblabimneiaaCycMine
namespace Go.Proofs.Yteofblabimneiaa
open Go.RowKit
theorem eltAc : Elt Try.prog 24 2 .i64 8 := by
  have ht := Try.underlying24
  have h : (Try.prog.info? 2).map (fun i => (i.zero, i.size, i.bytes)) = some (some (.int .i64 0), 1, 8) := by kernel_rfl
  cases hi : Try.prog.info? 2 with
  | none => rw [hi] at h; cases h
  | some i =>
    rw [hi] at h
    simp only [Option.map_some, Option.some.injEq, Prod.mk.injEq] at h
    exact ⟨i, ht, hi, h.1, h.2.1, h.2.2⟩
theorem Row.atc {k : IntKind} {w : World} {p : Option Addr} {n c : Nat} {zs : List Int} (h : Row k w (.slice p n c) zs) (i : Nat) (hi : i < zs.length) : ∃ b o, p = some ⟨b, o, none⟩ ∧ b < w.heap.size ∧ w.cell? ⟨b, o + i, none⟩ = some (.int k (zs.getD i 0)) := by
  obtain ⟨p', c', e1, _, h⟩ := h
  cases e1
  rcases h with h | ⟨b, o, hp, h⟩
  · subst h; simp at hi
  · exact ⟨b, o, hp, World.block_lt_of_cell? w _ (h i hi), h i hi⟩
theorem eq_of_getD {a b : List Int} (hl : a.length = b.length) (h : ∀ j, j < a.length → a.getD j 0 = b.getD j 0) : a = b := by
  apply List.ext_getElem hl
  intro i h1 h2
  have := h i h1
  rwa [List.getD_eq_getElem?_getD, List.getElem?_eq_getElem h1, List.getD_eq_getElem?_getD, List.getElem?_eq_getElem h2] at this
set_option linter.unusedSimpArgs false in
set_option maxHeartbeats 4000000 in
set_option maxRecDepth 100000 in
theorem eq64_any (w : World) (v1 v2 : Value) (xs ys : List Int) (h1 : Row .i64 w v1 xs) (h2 : Row .i64 w v2 ys) (hn : xs.length ≤ 100000) :
    Calls Try.prog 27 #[v1, v2] w fun e w' => e = .returned (.bool (decide (xs = ys))) ∧ Below w.heap.size w w' := by
  obtain ⟨p1, c1, rfl⟩ := h1.shape
  obtain ⟨p2, c2, rfl⟩ := h2.shape
  have HR1 := Lib.hid h1
  have HR2 := Lib.hid h2
  clear h1 h2
  by_cases hl : xs.length = ys.length
  · rw [← hl]
    rw [← hl] at HR2
    have HLL := Lib.hid hl
    clear hl
    generalize hl : xs.length = n at *
    have HL := Lib.hid hl
    clear hl
    go_enter Try.func27, Try.ntmps27
    go_wp2_with fail
    go_loopw [13] (fun i wr => ∃ k : Nat, k ≤ n ∧ i = .int .i64 k ∧ Hid (Below w.heap.size w wr ∧ ∀ j, j < k → xs.getD j 0 = ys.getD j 0)) (fun i _ => n - (intOf i).toNat)
    case atStart => exact ⟨0, by omega, rfl, ⟨Below.refl _ _, fun j hj => by omega⟩⟩
    case round =>
      obtain ⟨k, hk, rfl, HB⟩ := hrel
      by_cases hlt : k < n
      · have hltI : (k : Int) < (n : Int) := by omega
        obtain ⟨b1, o1, rfl, hb1, d1⟩ := (HR1.out.kept HB.out.1).atc k (by rw [HL.out]; exact hlt)
        obtain ⟨b2, o2, rfl, hb2, d2⟩ := (HR2.out.kept HB.out.1).atc k (by rw [← HLL.out, ]; exact hlt)
        obtain ⟨x, hx⟩ : ∃ x, xs.getD k 0 = x := ⟨_, rfl⟩
        obtain ⟨y, hy⟩ : ∃ y, ys.getD k 0 = y := ⟨_, rfl⟩
        rw [hx] at d1
        rw [hy] at d2
        have HX := Lib.hid hx
        have HY := Lib.hid hy
        clear hx hy
        have hS1 : wr.drew.cell? ⟨b1, o1 + k, none⟩ = some (.int .i64 x) ∧ wr.drew.cell? ⟨b2, o2 + k, none⟩ = some (.int .i64 y) := ⟨d1, d2⟩
        go_wp2_with fail
        refine wp_region_held_drew (S := fun w' => w'.cell? ⟨b1, o1 + k, none⟩ = some (.int .i64 x) ∧ w'.cell? ⟨b2, o2 + k, none⟩ = some (.int .i64 y)) (by kernel_rfl) hS1 (fun hS0 => ?_)
        refine wpAnyH_take (i := 0) (v := ?_) rfl (by kernel_rfl) (by kernel_rfl) (by kernel_rfl) (fun _ _ _ h => h) (Or.inl ⟨by kernel_rfl, ?_⟩) (by first | assumption | trivial) ?_
        rotate_left
        · intro w hSw
          try dsimp only at hSw
          first | (go_simp; done) | (go_simp; with_reducible rfl)
        try simp only [Act.put, List.getElem_toArray, List.getElem_cons_succ, List.getElem_cons_zero, List.setIfInBounds_toArray, List.set_cons_zero, List.set_cons_succ]
        refine wpAnyH_take (i := 1) (v := ?_) rfl (by kernel_rfl) (by kernel_rfl) (by kernel_rfl) (fun _ _ _ h => h) (Or.inl ⟨by kernel_rfl, ?_⟩) (by first | assumption | trivial) ?_
        rotate_left
        · intro w hSw
          try dsimp only at hSw
          first | (go_simp; done) | (go_simp; with_reducible rfl)
        try simp only [Act.put, List.getElem_toArray, List.getElem_cons_succ, List.getElem_cons_zero, List.setIfInBounds_toArray, List.set_cons_zero, List.set_cons_succ]
        refine wpAnyH_take (i := 2) (v := ?_) rfl (by kernel_rfl) (by kernel_rfl) (by kernel_rfl) (fun _ _ _ h => h) (Or.inl ⟨by kernel_rfl, ?_⟩) (by first | assumption | trivial) ?_
        rotate_left
        · intro w hSw
          try dsimp only at hSw
          first | (go_simp; done) | (go_simp; with_reducible rfl)
        try simp only [Act.put, List.getElem_toArray, List.getElem_cons_succ, List.getElem_cons_zero, List.setIfInBounds_toArray, List.set_cons_zero, List.set_cons_succ]
        refine wpAnyH_take (i := 3) (v := ?_) rfl (by kernel_rfl) (by kernel_rfl) (by kernel_rfl) (fun _ _ _ h => h) (Or.inl ⟨by kernel_rfl, ?_⟩) (by first | assumption | trivial) ?_
        rotate_left
        · intro w hSw
          try dsimp only at hSw
          first | (go_simp; done) | (go_simp; with_reducible rfl)
        try simp only [Act.put, List.getElem_toArray, List.getElem_cons_succ, List.getElem_cons_zero, List.setIfInBounds_toArray, List.set_cons_zero, List.set_cons_succ]
        refine wpAnyH_take (i := 4) (v := ?_) rfl (by kernel_rfl) (by kernel_rfl) (by kernel_rfl) (fun _ _ _ h => h) (Or.inl ⟨by kernel_rfl, ?_⟩) (by first | assumption | trivial) ?_
        rotate_left
        · intro w hSw
          try dsimp only at hSw
          first | (go_simp; done) | (go_simp; with_reducible rfl)
        try simp only [Act.put, List.getElem_toArray, List.getElem_cons_succ, List.getElem_cons_zero, List.setIfInBounds_toArray, List.set_cons_zero, List.set_cons_succ]
        refine wpAnyH_take (i := 5) (v := ?_) rfl (by kernel_rfl) (by kernel_rfl) (by kernel_rfl) (fun _ _ _ h => h) (Or.inl ⟨by kernel_rfl, ?_⟩) (by first | assumption | trivial) ?_
        rotate_left
        · intro w hSw
          try dsimp only at hSw
          first | (go_simp; done) | (go_simp; with_reducible rfl)
        try simp only [Act.put, List.getElem_toArray, List.getElem_cons_succ, List.getElem_cons_zero, List.setIfInBounds_toArray, List.set_cons_zero, List.set_cons_succ]
        refine wpAnyH_take (i := 6) (v := ?_) rfl (by kernel_rfl) (by kernel_rfl) (by kernel_rfl) (fun _ _ _ h => h) (Or.inl ⟨by kernel_rfl, ?_⟩) (by first | assumption | trivial) ?_
        rotate_left
        · intro w hSw
          try dsimp only at hSw
          first | (go_simp; done) | (go_simp; with_reducible rfl)
        try simp only [Act.put, List.getElem_toArray, List.getElem_cons_succ, List.getElem_cons_zero, List.setIfInBounds_toArray, List.set_cons_zero, List.set_cons_succ]
        refine wpAnyH_take (i := 7) (v := ?_) rfl (by kernel_rfl) (by kernel_rfl) (by kernel_rfl) (fun _ _ _ h => h) (Or.inl ⟨by kernel_rfl, ?_⟩) (by first | assumption | trivial) ?_
        rotate_left
        · intro w hSw
          try dsimp only at hSw
          first | (go_simp; done) | (go_simp; with_reducible rfl)
        try simp only [Act.put, List.getElem_toArray, List.getElem_cons_succ, List.getElem_cons_zero, List.setIfInBounds_toArray, List.set_cons_zero, List.set_cons_succ]
        refine wpAnyH_take (i := 8) (v := ?_) rfl (by kernel_rfl) (by kernel_rfl) (by kernel_rfl) (fun _ _ _ h => h) (Or.inl ⟨by kernel_rfl, ?_⟩) (by first | assumption | trivial) ?_
        rotate_left
        · intro w hSw
          try dsimp only at hSw
          first | (go_simp; done) | (go_simp; with_reducible rfl)
        try simp only [Act.put, List.getElem_toArray, List.getElem_cons_succ, List.getElem_cons_zero, List.setIfInBounds_toArray, List.set_cons_zero, List.set_cons_succ]
        refine wpAnyH_done (by kernel_rfl) ?_ _
        by_cases hxy : x = y
        · have HN : Hid (Below w.heap.size w wr.drew ∧ ∀ j, j < k + 1 → xs.getD j 0 = ys.getD j 0) := ⟨HB.out.1.drew, fun j hj => by
            by_cases e : j = k
            · subst e; rw [HX.out, HY.out, hxy]
            · exact HB.out.2 j (by omega)⟩
          have e1 : (x != y) = false := by simpa using hxy
          clear hxy
          go_wp2_with fail
          go_roundw
          case rel => exact ⟨k + 1, by omega, by go_num, HN⟩
          case measure => simp [intOf]; omega
        · have HE : Hid (decide (xs = ys) = false) := by
            show _ = _
            apply decide_eq_false
            intro h
            apply hxy
            rw [← HX.out, ← HY.out, h]
          have e1 : (x != y) = true := by simpa using hxy
          clear hxy
          go_wp2_with fail
          go_ret
          exact ⟨by rw [HE.out]; rfl, HB.out.1.drew⟩
      · have hle : (n : Int) ≤ (k : Int) := by omega
        have HE : Hid (decide (xs = ys) = true) := decide_eq_true (eq_of_getD (by rw [HL.out]; exact HLL.out) fun j hj => HB.out.2 j (by have := HL.out; omega))
        go_wp2_with fail
        go_ret
        exact ⟨by rw [HE.out]; rfl, HB.out.1⟩
  · have HE : Hid (decide (xs = ys) = false) := by
      show _ = _
      apply decide_eq_false
      intro h
      exact hl (by rw [h])
    have hne : ¬ (xs.length : Int) = (ys.length : Int) := by omega
    clear hl
    generalize xs.length = n at *
    generalize ys.length = m at *
    have e1 : ((n : Int) != (m : Int)) = true := by simpa using hne
    clear hne
    go_enter Try.func27, Try.ntmps27
    go_wp2_with fail
    go_ret
    exact ⟨by rw [HE.out]; rfl, Below.refl _ _⟩
def NRel (W2 : World) (me : Int) (ys : List Lin) (k : Nat) (v : Value) (wr : World) : Prop := Own .i64 wr W2.heap.size 2 v ((ys.take k).map (gives me)) ∧ Below W2.heap.size W2 wr
set_option linter.unusedSimpArgs false in
set_option maxHeartbeats 4000000 in
set_option maxRecDepth 100000 in
theorem net_any (w : World) (me : Int) (v : Value) (xs : List Lin) (hr : TRow encN w v xs) (hn : xs.length ≤ 2000) (ha : ∀ x ∈ xs, 1 ≤ x.a ∧ x.a ≤ 1125899906842624) :
    Calls Try.prog 20 #[.int .i64 me, v] w fun e w' => e = .returned (.tuple #[.int .i64 (netS me xs), .int .i64 0]) ∧ Below w.heap.size w w' := by
  obtain ⟨ys, hys⟩ : ∃ ys, mineL me xs = ys := ⟨_, rfl⟩
  have hM := mine_any w me v xs hr hn
  have HS : Hid (netS me xs = (ys.map (gives me)).sum) := by show _ = _; unfold netS netL; rw [hys]
  have ha : ∀ x ∈ ys, 1 ≤ x.a ∧ x.a ≤ 1125899906842624 := fun x hx => by rw [← hys] at hx; exact ha x (List.mem_filter.1 hx).1
  have hn : ys.length ≤ 2000 := by rw [← hys]; exact Nat.le_trans (List.length_filter_le _ _) hn
  rw [hys] at hM
  clear hys
  have hsm : ∀ z ∈ ys.map (gives me), -1125899906842624 ≤ z ∧ z ≤ 1125899906842624 := fun z hz => by
    obtain ⟨x, hx, rfl⟩ := List.mem_map.1 hz
    have := ha x hx
    unfold gives
    split <;> constructor <;> omega
  have H64 : Hid (All64 (ys.map (gives me))) := fun z hz => by have := hsm z hz; omega
  have HFT : Hid (Fits (ys.map (gives me)).sum) := by
    have h1 := sum_small hsm
    rw [List.length_map] at h1
    have h3 : (1125899906842624 : Int) * (ys.length : Int) ≤ 1125899906842624 * 2000 := Int.mul_le_mul_of_nonneg_left (by omega) (by omega)
    show Fits _
    unfold Fits
    omega
  have HSU : Hid (∀ W v, Row .i64 W v (ys.map (gives me)) → Calls Try.prog 33 #[v] W (SumTo (ys.map (gives me)).sum W)) := fun W v h => sum_any v _ W (by rw [List.length_map]; omega) H64.out h
  have HM := Lib.hid hM
  have HA := Lib.hid ha
  obtain ⟨pv, cv, hv⟩ := hr.shape
  generalize xs.length = nx at hv
  subst hv
  clear ha hM H64 hsm hr
  generalize hl : ys.length = n at *
  have HL := Lib.hid hl
  clear hl
  go_enter Try.func20, Try.ntmps20
  go_wp2_with fail
  refine HM.out.mono ?_
  rintro y W2 ⟨v1, rfl, ho1, hb1⟩
  obtain ⟨p1, c1, hv1⟩ := ho1.form
  rw [HL.out] at hv1
  subst hv1
  have HR := Lib.hid ho1.row
  have HB2 := Lib.hid hb1
  clear ho1 hb1 HM
  have HREL : Hid (NRel W2 me ys 0 (.slice none 0 0) W2) := ⟨Own.nil_ _ _ _ _, Below.refl _ _⟩
  go_wp2_with fail
  go_loopw [6, 13] (fun v i wr => ∃ k : Nat, k ≤ n ∧ i = .int .i64 k ∧ Hid (NRel W2 me ys k v wr)) (fun _ i _ => n - (intOf i).toNat)
  case atStart => exact ⟨0, by omega, rfl, HREL⟩
  case round =>
    obtain ⟨k, hk, rfl, HK⟩ := hrel
    clear HREL
    by_cases hlt : k < n
    · have hkl : k < ys.length := by rw [HL.out]; exact hlt
      have hltI : (k : Int) < (n : Int) := by omega
      have HTK : Hid (ys.take (k + 1) = ys.take k ++ [ys[k]]) := List.take_succ_eq_append_getElem hkl
      obtain ⟨b, o, rfl, hbl, hcs⟩ := (HR.out.kept HK.out.2).at_ k hkl
      have hax := HA.out _ (List.getElem_mem hkl)
      generalize ys[k] = x at *
      have c0 : wr.cell? ⟨b, o + k * 4, none⟩ = some (.int .i64 x.s) := hcs 0 (by decide)
      have c1 : wr.cell? ⟨b, o + k * 4 + 1, none⟩ = some (.int .i64 x.n) := hcs 1 (by decide)
      have c2 : wr.cell? ⟨b, o + k * 4 + 2, none⟩ = some (.int .i64 x.b) := hcs 2 (by decide)
      have c3 : wr.cell? ⟨b, o + k * 4 + 3, none⟩ = some (.int .i64 x.a) := hcs 3 (by decide)
      have HSUC : Hid ((ys.take (k + 1)).map (gives me) = (ys.take k).map (gives me) ++ [gives me x]) := by
        show _ = _
        rw [HTK.out, List.map_append]; rfl
      have HZL : Hid (((ys.take k).map (gives me)).length ≤ 2000) := by show _ ≤ _; rw [List.length_map, List.length_take]; omega
      obtain ⟨ho1, hw1⟩ := HK.out
      obtain ⟨p2, c2, hv2⟩ := ho1.form
      generalize hz : (ys.take k).map (gives me) = zs at *
      generalize hm : zs.length = m at *
      subst hv2
      have hm2 : m ≤ 2000 := HZL.out
      have HMZ := Lib.hid hm
      have HO1 := Lib.hid (ho1.alloc (.cells #[.int .i64 x.s, .int .i64 x.n, .int .i64 x.b, .int .i64 x.a] 45))
      have HBR := Lib.hid hw1
      have HSZ : Hid (W2.heap.size ≤ wr.heap.size) := hw1.size
      clear ho1 hw1 HK hz hm HTK hcs
      by_cases hs : x.s = me
      · have e1 : (x.s == me) = true := by simpa using hs
        have HAM : Hid (gives me x = x.a) := if_pos hs
        rw [HAM.out] at HSUC
        clear hs
        go_wp2_with (at_builtin; with_reducible refine stop_appendIN (.tmp 22) (.tmp 25) 24 rfl ?_)
        refine wpList_append_row rfl (.tmp 22) (.tmp 25) 24 rfl 2 .i64 8 W2.heap.size eltAc (.slice p2 m c2) (.slice (some ⟨wr.heap.size + 1, 0, none⟩) 1 1) zs [x.a] rfl rfl (HO1.out.alloc (.cells #[.int .i64 (x.a)] 2)) ⟨some ⟨wr.heap.size + 1, 0, none⟩, 1, rfl, Nat.le_refl _, .inr ⟨wr.heap.size + 1, 0, rfl, fun i hi => ?_⟩⟩ (by have := HMZ.out; simp; omega) (by have := HMZ.out; simp; omega) (by have := HSZ.out; simp at this ⊢; omega) (zs ++ [x.a]) (m + 1) rfl (by rw [List.length_append, HMZ.out]; rfl) ?_
        · obtain rfl : i = 0 := by simp at hi; omega
          exact (Blk.new' (wr.alloc (.cells #[.int .i64 x.s, .int .i64 x.n, .int .i64 x.b, .int .i64 x.a] 45)) #[.int .i64 (x.a)] 2 (b := wr.heap.size + 1) (by simp)).cell 0
        intro p3 c3 w3 ho3 hb3
        have HNX : Hid (NRel W2 me ys (k + 1) (.slice p3 (m + 1) c3) w3) := ⟨by rw [HSUC.out]; exact ho3, HBR.out.trans ((((Below.refl _ wr).alloc HSZ.out _).alloc (by have := HSZ.out; simp; omega) _).trans hb3)⟩
        clear ho3 hb3
        go_wp2_with fail
        go_roundw
        case rel => exact ⟨k + 1, by omega, by go_num, HNX⟩
        case measure => simp [intOf]; omega
      · have e1 : (x.s == me) = false := by simpa using hs
        have HAM : Hid (gives me x = -x.a) := if_neg hs
        rw [HAM.out] at HSUC
        clear hs
        go_wp2_with (at_builtin; with_reducible refine stop_appendIN (.tmp 27) (.tmp 31) 24 rfl ?_)
        refine wpList_append_row rfl (.tmp 27) (.tmp 31) 24 rfl 2 .i64 8 W2.heap.size eltAc (.slice p2 m c2) (.slice (some ⟨wr.heap.size + 1, 0, none⟩) 1 1) zs [-x.a] rfl rfl (HO1.out.alloc (.cells #[.int .i64 (-x.a)] 2)) ⟨some ⟨wr.heap.size + 1, 0, none⟩, 1, rfl, Nat.le_refl _, .inr ⟨wr.heap.size + 1, 0, rfl, fun i hi => ?_⟩⟩ (by have := HMZ.out; simp; omega) (by have := HMZ.out; simp; omega) (by have := HSZ.out; simp at this ⊢; omega) (zs ++ [-x.a]) (m + 1) rfl (by rw [List.length_append, HMZ.out]; rfl) ?_
        · obtain rfl : i = 0 := by simp at hi; omega
          exact (Blk.new' (wr.alloc (.cells #[.int .i64 x.s, .int .i64 x.n, .int .i64 x.b, .int .i64 x.a] 45)) #[.int .i64 (-x.a)] 2 (b := wr.heap.size + 1) (by simp)).cell 0
        intro p3 c3 w3 ho3 hb3
        have HNX : Hid (NRel W2 me ys (k + 1) (.slice p3 (m + 1) c3) w3) := ⟨by rw [HSUC.out]; exact ho3, HBR.out.trans ((((Below.refl _ wr).alloc HSZ.out _).alloc (by have := HSZ.out; simp; omega) _).trans hb3)⟩
        clear ho3 hb3
        go_wp2_with fail
        go_roundw
        case rel => exact ⟨k + 1, by omega, by go_num, HNX⟩
        case measure => simp [intOf]; omega
    · have hle : (n : Int) ≤ (k : Int) := by omega
      have hkn : k = ys.length := by rw [HL.out]; omega
      have hK := HK.out
      rw [hkn] at hK
      unfold NRel at hK
      rw [List.take_length] at hK
      have HSM := Lib.hid (HSU.out _ _ hK.1.row)
      have HW := Lib.hid (HB2.out.trans (hK.2.mono HB2.out.size))
      clear HK hK hkn
      go_wp2_with fail
      refine HSM.out.mono ?_
      rintro y w3 ⟨rfl, rfl⟩
      rw [sumN_yes HFT.out, sumE_yes HFT.out, ← HS.out]
      go_wp2_with fail
      go_ret2
      exact ⟨rfl, HW.out⟩
/-- What Nets answers. -/
def netsE (n : Int) (xs : List Lin) : Int := if n < 0 ∨ 8 < n then 1 else fitE n xs
def netsV (n : Int) (xs : List Lin) : List Int := if netsE n xs = 0 then netsL n.toNat xs else []
theorem netsL_succ (k : Nat) (xs : List Lin) : netsL (k + 1) xs = netsL k xs ++ [netS (k : Int) xs] := by
  unfold netsL
  rw [List.range_succ, List.map_append]
  rfl
theorem netsL_len (k : Nat) (xs : List Lin) : (netsL k xs).length = k := by unfold netsL; simp
theorem netsV_len_le (n : Int) (xs : List Lin) : (netsV n xs).length ≤ 8 := by
  unfold netsV
  split
  · rename_i h
    rw [netsL_len]
    unfold netsE at h
    split at h
    · cases h
    · omega
  · simp
def NsRel (w : World) (xs : List Lin) (k : Nat) (v : Value) (wr : World) : Prop := Own .i64 wr w.heap.size 2 v (netsL k xs) ∧ Below w.heap.size w wr
theorem within_a {n : Int} {x : Lin} (h : withinB n x = true) : 1 ≤ x.a ∧ x.a ≤ 1125899906842624 := by
  unfold withinB at h
  have := of_decide_eq_true h
  omega
set_option linter.unusedSimpArgs false in
set_option maxHeartbeats 4000000 in
set_option maxRecDepth 100000 in
theorem lnets_any (w : World) (N : Int) (v : Value) (xs : List Lin) (hr : TRow encN w v xs) (hn : xs.length ≤ 2000) :
    Calls Try.prog 9 #[.int .i64 N, v] w fun e w' => ∃ v', e = .returned (.tuple #[v', .int .i64 (netsE N xs)]) ∧ Own .i64 w' w.heap.size 2 v' (netsV N xs) ∧ Below w.heap.size w w' := by
  have HF := Lib.hid (fun W (h : Below w.heap.size w W) => lfits_any W N v xs (hr.kept h) (by omega))
  obtain ⟨pv, cv, hv⟩ := hr.shape
  have HR := Lib.hid hr
  have HN := Lib.hid hn
  generalize xs.length = nx at hv
  subst hv
  clear hr hn
  by_cases h0 : N < 0
  · have HE : Hid (netsE N xs = 1) := if_pos (.inl h0)
    have HV : Hid (netsV N xs = []) := by show _ = _; unfold netsV; rw [HE.out, if_neg (by decide)]
    go_enter Try.func9, Try.ntmps9
    go_wp2_with fail
    go_ret2
    exact ⟨_, by rw [HE.out]; rfl, by rw [HV.out]; exact Own.nil_ _ _ _ _, Below.refl _ _⟩
  by_cases h8 : 8 < N
  · have HE : Hid (netsE N xs = 1) := if_pos (.inr h8)
    have HV : Hid (netsV N xs = []) := by show _ = _; unfold netsV; rw [HE.out, if_neg (by decide)]
    go_enter Try.func9, Try.ntmps9
    go_wp2_with fail
    go_ret2
    exact ⟨_, by rw [HE.out]; rfl, by rw [HV.out]; exact Own.nil_ _ _ _ _, Below.refl _ _⟩
  have HE : Hid (netsE N xs = fitE N xs) := if_neg (by omega)
  have h0' : 0 ≤ N := by omega
  have h8' : N ≤ 8 := by omega
  by_cases hf : fitE N xs = 0
  · have HV : Hid (netsV N xs = netsL N.toNat xs) := by show _ = _; unfold netsV; rw [HE.out, hf, if_pos rfl]
    have HFZ := Lib.hid hf
    have HA : Hid (∀ x ∈ xs, 1 ≤ x.a ∧ x.a ≤ 1125899906842624) := fun x hx => within_a (fit_within hf x hx)
    obtain ⟨n, rfl⟩ : ∃ n : Nat, N = (n : Int) := ⟨N.toNat, by omega⟩
    have hn8 : n ≤ 8 := by omega
    have HNT : Hid (((n : Nat) : Int).toNat = n) := by show _ = _; omega
    have HNE := Lib.hid (fun (k : Nat) (W : World) (h : Below w.heap.size w W) => net_any W (k : Int) _ xs (HR.out.kept h) HN.out HA.out)
    have HREL : Hid (NsRel w xs 0 (.slice none 0 0) w) := ⟨Own.nil_ _ _ _ _, Below.refl _ _⟩
    clear hf h0 h8 h0' h8'
    go_enter Try.func9, Try.ntmps9
    go_wp2_with fail
    refine (HF.out w (Below.refl _ _)).mono ?_
    rintro y w1 ⟨rfl, hb1⟩
    rw [HFZ.out]
    have HB1 := Lib.hid hb1
    have HREL : Hid (NsRel w xs 0 (.slice none 0 0) w1) := ⟨Own.nil_ _ _ _ _, hb1⟩
    clear hb1
    go_wp2_with fail
    go_loopw [7, 24] (fun v i wr => ∃ k : Nat, k ≤ n ∧ i = .int .i64 k ∧ Hid (NsRel w xs k v wr)) (fun _ i _ => n - (intOf i).toNat)
    case atStart => exact ⟨0, by omega, rfl, HREL⟩
    case round =>
      obtain ⟨k, hk, rfl, HK⟩ := hrel
      clear HREL
      by_cases hlt : k < n
      · have hltI : (k : Int) < (n : Int) := by omega
        obtain ⟨ho1, hw1⟩ := HK.out
        obtain ⟨p2, c2, hv2⟩ := ho1.form
        rw [netsL_len] at hv2
        subst hv2
        have HO := Lib.hid ho1
        have HW := Lib.hid hw1
        clear ho1 hw1 HK
        go_wp2_with fail
        refine (HNE.out k wr HW.out).mono ?_
        rintro y w2 ⟨rfl, hb2⟩
        have HO2 := Lib.hid (HO.out.later hb2)
        have HW2 := Lib.hid (HW.out.trans (hb2.mono HW.out.size))
        have HSU := Lib.hid (netsL_succ k xs)
        have HKL := Lib.hid (netsL_len k xs)
        generalize netS (k : Int) xs = z at *
        generalize netsL k xs = zs at *
        clear hb2
        go_wp2_with (at_builtin; with_reducible refine stop_appendIN (.tmp 36) (.tmp 38) 24 rfl ?_)
        refine wpList_append_row rfl (.tmp 36) (.tmp 38) 24 rfl 2 .i64 8 w.heap.size eltAc (.slice p2 k c2) (.slice (some ⟨w2.heap.size, 0, none⟩) 1 1) zs [z] rfl rfl (HO2.out.alloc (.cells #[.int .i64 z] 2)) ⟨some ⟨w2.heap.size, 0, none⟩, 1, rfl, Nat.le_refl _, .inr ⟨w2.heap.size, 0, rfl, fun i hi => ?_⟩⟩ (by have := HKL.out; simp; omega) (by have := HKL.out; simp; omega) (by have := HW2.out.size; simp at this ⊢; omega) (zs ++ [z]) (k + 1) rfl (by rw [List.length_append, HKL.out]; rfl) ?_
        · obtain rfl : i = 0 := by simp at hi; omega
          exact (Blk.new' w2 #[.int .i64 z] 2 rfl).cell 0
        intro p3 c3 w3 ho3 hb3
        have HNX : Hid (NsRel w xs (k + 1) (.slice p3 (k + 1) c3) w3) := ⟨by rw [HSU.out]; exact ho3, HW2.out.trans (((Below.refl _ w2).alloc HW2.out.size _).trans hb3)⟩
        clear ho3 hb3
        go_wp2_with fail
        go_roundw
        case rel => exact ⟨k + 1, by omega, by go_num, HNX⟩
        case measure => simp [intOf]; omega
      · have hle : (n : Int) ≤ (k : Int) := by omega
        obtain rfl : k = n := by omega
        obtain ⟨ho1, hw1⟩ := HK.out
        obtain ⟨p2, c2, hv2⟩ := ho1.form
        rw [netsL_len] at hv2
        subst hv2
        have HO := Lib.hid ho1
        have HW := Lib.hid hw1
        clear ho1 hw1 HK
        go_wp2_with fail
        go_ret2
        exact ⟨_, by rw [HE.out, HFZ.out]; rfl, by rw [HV.out, HNT.out]; exact HO.out, HW.out⟩
  · have HV : Hid (netsV N xs = []) := by show _ = _; unfold netsV; rw [HE.out, if_neg hf]
    obtain ⟨E, hE⟩ : ∃ E, fitE N xs = E := ⟨_, rfl⟩
    have HEE := Lib.hid hE
    rw [hE] at hf HE
    have e1 : (E != 0) = true := by simpa using hf
    clear hf h0 h8 hE
    go_enter Try.func9, Try.ntmps9
    go_wp2_with fail
    refine (HF.out w (Below.refl _ _)).mono ?_
    rintro y w1 ⟨rfl, hb1⟩
    rw [HEE.out]
    have HB1 := Lib.hid hb1
    clear hb1
    go_wp2_with fail
    go_ret2
    exact ⟨_, by rw [HE.out]; rfl, by rw [HV.out]; exact Own.nil_ _ _ _ _, HB1.out⟩
def rightE (xs : List Lin) (zs : List Int) : Int := if netsE zs.length xs ≠ 0 then netsE zs.length xs else if zs = netsL zs.length xs then 0 else 10
set_option linter.unusedSimpArgs false in
set_option maxHeartbeats 4000000 in
set_option maxRecDepth 100000 in
theorem lright_any (w : World) (v vz : Value) (xs : List Lin) (zs : List Int) (hr : TRow encN w v xs) (hn : xs.length ≤ 2000) (hz : Row .i64 w vz zs) (hzl : zs.length ≤ 100000) :
    Calls Try.prog 14 #[v, vz] w fun e w' => e = .returned (.int .i64 (rightE xs zs)) ∧ Below w.heap.size w w' := by
  have HN := Lib.hid (lnets_any w (zs.length : Int) v xs hr hn)
  obtain ⟨pv, cv, hv⟩ := hr.shape
  generalize xs.length = nx at hv
  subst hv
  obtain ⟨pz, cz, hv⟩ := hz.shape
  subst hv
  have HZ := Lib.hid hz
  have HZL := Lib.hid hzl
  have HNV : Hid (netsV (zs.length : Int) xs = if netsE (zs.length : Int) xs = 0 then netsL zs.length xs else []) := by show _ = _; unfold netsV; rw [Int.toNat_natCast]
  have HRE : Hid (rightE xs zs = if netsE zs.length xs ≠ 0 then netsE zs.length xs else if zs = netsL zs.length xs then 0 else 10) := rfl
  clear hr hn hz hzl
  obtain ⟨E, hE⟩ : ∃ E, netsE (zs.length : Int) xs = E := ⟨_, rfl⟩
  rw [hE] at HN HNV HRE
  clear hE
  generalize hl : zs.length = n at *
  have HL := Lib.hid hl
  clear hl
  by_cases h0 : E = 0
  · subst h0
    rw [if_pos rfl] at HNV
    rw [if_neg (by simp)] at HRE
    go_enter Try.func14, Try.ntmps14
    go_wp2_with fail
    refine HN.out.mono ?_
    rintro y w1 ⟨v1, rfl, ho1, hb1⟩
    rw [HNV.out] at ho1
    have HQ := Lib.hid (eq64_any w1 _ v1 zs (netsL n xs) (HZ.out.kept hb1) ho1.row (by rw [HL.out]; exact HZL.out))
    obtain ⟨p1, c1, hv1⟩ := ho1.form
    rw [netsL_len] at hv1
    subst hv1
    have HB1 := Lib.hid hb1
    clear ho1 hb1 HN
    obtain ⟨B, hB⟩ : ∃ B, decide (zs = netsL n xs) = B := ⟨_, rfl⟩
    rw [hB] at HQ
    have HBB := Lib.hid hB
    clear hB
    go_wp2_with fail
    refine HQ.out.mono ?_
    rintro y w2 ⟨rfl, hb2⟩
    have HB2 := Lib.hid (HB1.out.trans (hb2.mono HB1.out.size))
    clear hb2 HQ
    cases B
    · have HX : Hid (rightE xs zs = 10) := by show _ = _; rw [HRE.out, if_neg (of_decide_eq_false HBB.out)]
      go_wp2_with fail
      go_ret
      exact ⟨by rw [HX.out]; rfl, HB2.out⟩
    · have HX : Hid (rightE xs zs = 0) := by show _ = _; rw [HRE.out, if_pos (of_decide_eq_true HBB.out)]
      go_wp2_with fail
      go_ret
      exact ⟨by rw [HX.out]; rfl, HB2.out⟩
  · rw [if_neg h0] at HNV
    rw [if_pos h0] at HRE
    have e1 : (E != 0) = true := by simpa using h0
    clear h0
    go_enter Try.func14, Try.ntmps14
    go_wp2_with fail
    refine HN.out.mono ?_
    rintro y w1 ⟨v1, rfl, ho1, hb1⟩
    rw [HNV.out] at ho1
    obtain ⟨p1, c1, hv1⟩ := ho1.form
    subst hv1
    have HB1 := Lib.hid hb1
    clear ho1 hb1 HN
    simp only [List.length_nil]
    go_wp2_with fail
    go_ret
    exact ⟨by rw [HRE.out]; rfl, HB1.out⟩
end Go.Proofs.Yteofblabimneiaa
