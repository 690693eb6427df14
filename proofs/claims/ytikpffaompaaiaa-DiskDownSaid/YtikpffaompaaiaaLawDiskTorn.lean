/- DiskTorn: the walk. -/
import Derived.Test.YtikpffaompaaiaaDiskKeeps
namespace Go.Proofs.Ytikpffaompaaiaa
open Go.RowKit
theorem spend_none {l : Int} (h : l < 0) (n : Nat) : spendE l n = false ∧ spendN l n = n ∧ spendL l n = l := by
  have hE : spendE l n = false := by unfold spendE; rw [decide_eq_false_iff_not]; omega
  refine ⟨hE, ?_, ?_⟩
  · unfold spendN; rw [hE]; rfl
  · unfold spendL; rw [if_pos h]
theorem write_calm {d : DSt} {zs : List Int} (hd : d.dn = false) (hl : d.left < 0) (hf : (zs.length : Int) ≤ d.free) : d.writeD zs = { d with R := d.R ++ zs } ∧ d.writeE zs.length = 0 := by
  obtain ⟨h1, h2, h3⟩ := spend_none hl zs.length
  constructor
  · unfold DSt.writeD
    rw [if_neg (by rw [hd]; intro h; rcases h with h | h; cases h; omega), h1, h2, h3, List.take_length, ← hd]
  · unfold DSt.writeE
    rw [hd, if_neg (by decide), if_neg (by omega), h1]; rfl
def t2D (A : List Int) : DSt := ⟨2000, A, [], false, false, -1⟩
def t3D (A B : List Int) : DSt := ⟨2000, A, B, false, false, -1⟩
def t5D (A B : List Int) (k t : Int) : DSt := ⟨2000, A ++ tornL B (keepN k B.length) t, [], false, false, -1⟩
theorem t_one {A : List Int} (h : A.length ≤ 500) : ((newD 2000).writeD A).syncD = t2D A := by
  have h1 := (write_calm (d := newD 2000) (zs := A) rfl (by decide) (by show (A.length : Int) ≤ (2000 : Int) - 0 - 0; omega)).1
  rw [h1]; rfl
theorem t_two {A B : List Int} (hA : A.length ≤ 500) (hB : B.length ≤ 500) : (t2D A).writeD B = t3D A B := by
  have h1 := (write_calm (d := t2D A) (zs := B) rfl (by show (-1 : Int) < 0; decide) (by show (B.length : Int) ≤ (2000 : Int) - (A.length : Int) - 0; omega)).1
  rw [h1]; rfl
theorem t_three {A B : List Int} (k t : Int) : ((t3D A B).crashD k t).upD = t5D A B k t := rfl
theorem t_fits {A B : List Int} (hA : A.length ≤ 500) (k t : Int) : (t3D A B).Fits ∧ ((t3D A B).crashD k t).Fits := by
  constructor <;> (show A.length ≤ 2000; omega)
/-- A row lies in one block. -/
theorem Row.rowAtB {k : IntKind} {w : World} {v : Value} {zs : List Int} (h : Row k w v zs) : ∃ g0, RowAt k w g0 v zs := by
  obtain ⟨p, c, rfl, hc, h⟩ := h
  rcases h with h | ⟨b, o, hp, h⟩
  · exact ⟨0, p, c, rfl, hc, .inl h⟩
  · exact ⟨b, p, c, rfl, hc, .inr ⟨o, hp, h⟩⟩
set_option linter.unusedSimpArgs false in
set_option maxHeartbeats 4000000 in
set_option maxRecDepth 100000 in
theorem dtorn_walk (va vb : Value) (A B : List Int) (k t : Int) (W : World) (oa : Oct A) (ra : Row .u8 W va A) (ob : Oct B) (rb : Row .u8 W vb B) (_ : -9223372036854775808 ≤ k ∧ k ≤ 9223372036854775807) (bt : 0 ≤ t ∧ t < 256) :
    Calls Try.prog 12 #[.agg #[va, vb], .int .i64 k, .int .u8 t] W fun e W' => e = .returned (.bool true) ∧ Below W.heap.size W W' := by
  obtain ⟨pa, ca, rfl⟩ := ra.shape
  obtain ⟨pb, cb, rfl⟩ := rb.shape
  have RA := Lib.hid ra
  have RB := Lib.hid rb
  have OA := Lib.hid oa
  have OB := Lib.hid ob
  clear ra rb oa ob
  by_cases h1 : (A.length : Int) ≤ 500 ∧ (B.length : Int) ≤ 500
  · obtain ⟨g1, g2⟩ := h1
    have hA : A.length ≤ 500 := by omega
    have hB : B.length ≤ 500 := by omega
    have T1 := Lib.hid (t_one hA)
    have T2 := Lib.hid (t_two hA hB)
    have T3 := Lib.hid (t_three (A := A) (B := B) k t)
    have TF := Lib.hid (t_fits (B := B) hA k t)
    obtain ⟨mm, hm0⟩ : ∃ mm : Int, (if (B.length : Int) < k then (B.length : Int) else k) = mm := ⟨_, rfl⟩
    obtain ⟨N, hNd⟩ : ∃ N, N = keepN k B.length := ⟨_, rfl⟩
    have hNl : N ≤ B.length := by rw [hNd]; exact keepN_le _ _
    have hn0 : (if 0 < mm then mm else 0) = (N : Int) := by
      rw [hNd, ← hm0]
      unfold keepN
      split <;> split <;> omega
    have HND := Lib.hid hNd
    have HNL := Lib.hid hNl
    clear hNd hA hB
    generalize hla : A.length = na at *
    generalize hlb : B.length = nb at *
    have HLA := Lib.hid hla
    have HLB := Lib.hid hlb
    clear hla hlb
    have HBP := Lib.hid (Blk.new W #[.slice pa na ca, .slice pb nb cb] 71)
    have HBW := Lib.hid (oneB W (.cells #[.slice pa na ca, .slice pb nb cb] 71))
    go_enter Try.func12, Try.ntmps12
    go_wp2_with fail
    generalize hWA : W.alloc (.cells #[.slice pa na ca, .slice pb nb cb] 71) = WA at *
    clear hWA
    have HCE : Hid (∀ w', Below WA.heap.size WA w' → w'.cell? ⟨W.heap.size, 0, none⟩ = some (.slice pa na ca) ∧ w'.cell? ⟨W.heap.size, 1, none⟩ = some (.slice pb nb cb)) := fun w' h => ⟨(HBP.out.below h HBP.out.lt).cell 0, (HBP.out.below h HBP.out.lt).cell 1⟩
    have HWW : Hid (∀ w', Below WA.heap.size WA w' → Below W.heap.size W w') := fun w' h => HBW.out.trans (h.mono HBW.out.size)
    refine (keeps_any _).mono ?_
    rintro y w0 ⟨rfl, hb0⟩
    have B0 := Lib.hid hb0
    have hWg : W.heap.size ≤ w0.heap.size := Nat.le_trans HBW.out.size hb0.size
    have HAg := Lib.hid hb0.size
    obtain ⟨e0, e1⟩ := HCE.out w0 hb0
    clear hb0
    go_wp2_with fail
    clear e0 e1
    refine (new_any 2000 w0).mono ?_
    rintro y w1 ⟨hb1, _, hk1⟩
    obtain ⟨rfl, hd1⟩ := hk1 (by decide)
    have D1 : Hid (Dk w1 w0.heap.size w0.heap.size (newD 2000)) := hd1
    have B1 := Lib.hid (B0.out.trans (hb1.mono HAg.out))
    clear hb1 hk1 hd1
    generalize w0.heap.size = g at *
    have fA := row_far RA.out (HWW.out w1 B1.out) hWg
    obtain ⟨e0, e1⟩ := HCE.out w1 B1.out
    have FA := Lib.hid fA
    clear fA
    go_wp2_with fail
    clear e0 e1
    refine (write_any w1 g g (newD 2000) _ A D1.out OA.out FA.out).mono ?_
    rintro y w2 ⟨rfl, hd2, hb2⟩
    have D2 := Lib.hid hd2
    have B2 := Lib.hid (B1.out.trans (hb2.mono HAg.out))
    clear hd2 hb2
    go_wp2_with fail
    refine (sync_any w2 g g _ D2.out).mono ?_
    rintro y w3 ⟨rfl, hd3, hb3⟩
    rw [T1.out] at hd3
    have D3 := Lib.hid hd3
    have B3 := Lib.hid (B2.out.trans (hb3.mono HAg.out))
    have FB := Lib.hid (row_far RB.out (HWW.out w3 B3.out) hWg)
    obtain ⟨e0, e1⟩ := HCE.out w3 B3.out
    clear hd3 hb3
    go_wp2_with fail
    clear e0 e1
    refine (write_any w3 g g (t2D A) _ B D3.out OB.out FB.out).mono ?_
    rintro y w4 ⟨rfl, hd4, hb4⟩
    rw [T2.out] at hd4
    have D4 := Lib.hid hd4
    have B4 := Lib.hid (B3.out.trans (hb4.mono HAg.out))
    clear hd4 hb4
    go_wp2_with fail
    refine (crash_any w4 g g (t3D A B) k t bt D4.out TF.out.1).mono ?_
    rintro y w5 ⟨rfl, hd5, hb5⟩
    have D5 := Lib.hid hd5
    have B5 := Lib.hid (B4.out.trans (hb5.mono HAg.out))
    clear hd5 hb5
    go_wp2_with fail
    refine (up_any w5 g g _ D5.out TF.out.2).mono ?_
    rintro y w6 ⟨rfl, hd6, hb6⟩
    rw [T3.out] at hd6
    have D6 := Lib.hid hd6
    have B6 := Lib.hid (B5.out.trans (hb6.mono HAg.out))
    have hs6 : Hid (WA.heap.size ≤ w6.heap.size) := B6.out.size
    clear hd6 hb6
    go_wp2_with fail
    refine (dread_any w6 g g _ D6.out).mono ?_
    rintro y w7 ⟨v7, rfl, ho7, hd7, hb7⟩
    rw [show (t5D A B k t).readE = 0 from rfl]
    have hrd : (t5D A B k t).readD = A ++ tornL B (keepN k nb) t := by rw [← HLB.out]; show (A ++ tornL B (keepN k B.length) t) ++ [] = _; rw [List.append_nil]
    rw [hrd, ← HND.out] at ho7
    have hT7 : (A ++ tornL B N t).length = na + N := by rw [List.length_append, HLA.out, tornL_length (by rw [HLB.out]; exact HNL.out)]
    obtain ⟨p7, c7, hv7⟩ := ho7.form
    rw [hT7] at hv7
    subst hv7
    have D7 := Lib.hid hd7
    have B7 := Lib.hid (B6.out.trans (hb7.mono hs6.out))
    have O7 := Lib.hid ho7
    obtain ⟨e0, e1⟩ := HCE.out w7 B7.out
    clear hd7 hb7 ho7 hrd
    go_wp2_with fail
    have HT7 := Lib.hid hT7
    have hcb : nb ≤ cb := by
      obtain ⟨_, _, e, h, _⟩ := RB.out
      cases e
      exact Nat.le_trans (Nat.le_of_eq HLB.out.symm) h
    have hNc : (N : Int) ≤ (cb : Int) := by omega
    obtain ⟨gB, hatB⟩ := RB.out.rowAtB
    have HBT := Lib.hid (hatB.take N (by rw [HLB.out]; exact hNl)).row
    have hor : N = 0 ∨ 0 < N ∧ ∃ o, pb = some ⟨gB, o, none⟩ := by
      by_cases h0 : N = 0
      · exact .inl h0
      · right
        obtain ⟨_, _, e, _, h2⟩ := hatB
        cases e
        rcases h2 with h2 | ⟨o, h2, _⟩
        · exfalso
          have h3 : B.length = 0 := by rw [h2]; rfl
          have h4 := HLB.out
          omega
        · exact ⟨by omega, o, h2⟩
    have O8 := Lib.hid (Own.made_at .u8 w7.drew w7.heap.size w7.heap.size 5 (Nat.le_refl _) rfl)
    have hBT2 : (B.take N).length = N := by rw [List.length_take, HLB.out]; omega
    have HBT2 := Lib.hid hBT2
    have e0d : w7.drew.cell? ⟨W.heap.size, 0, none⟩ = some (.slice pa na ca) ∧ w7.drew.cell? ⟨W.heap.size, 1, none⟩ = some (.slice pb nb cb) := ⟨e0, e1⟩
    clear hT7 hatB hBT2
    rcases hor with hN0 | ⟨hN0, oB, rfl⟩
    all_goals
      go_wp2_with fail
      refine wp_region_held_drew (S := fun w' => w'.cell? ⟨W.heap.size, 0, none⟩ = some (.slice pa na ca) ∧ w'.cell? ⟨W.heap.size, 1, none⟩ = some (.slice _ nb cb)) (by kernel_rfl) e0d (fun hS0 => ?_)
      refine wpAnyH_take (i := 1) (v := ?_) rfl (by kernel_rfl) (by kernel_rfl) (by kernel_rfl) (fun _ _ _ h => h) (Or.inl ⟨by kernel_rfl, ?_⟩) (by first | trivial | assumption) ?_
      rotate_left
      · intro w hSw
        try dsimp only at hSw
        first | (go_simp; done) | (go_simp; with_reducible rfl)
      try simp only [Act.put, List.getElem_toArray, List.getElem_cons_succ, List.getElem_cons_zero, List.setIfInBounds_toArray, List.set_cons_zero, List.set_cons_succ]
      refine wpAnyH_take (i := 2) (v := ?_) rfl (by kernel_rfl) (by kernel_rfl) (by kernel_rfl) (fun _ _ _ h => h) (Or.inl ⟨by kernel_rfl, ?_⟩) (by first | trivial | assumption) ?_
      rotate_left
      · intro w hSw
        try dsimp only at hSw
        first | (go_simp; done) | (go_simp; with_reducible rfl)
      try simp only [Act.put, List.getElem_toArray, List.getElem_cons_succ, List.getElem_cons_zero, List.setIfInBounds_toArray, List.set_cons_zero, List.set_cons_succ]
      refine wpAnyH_take (i := 4) (v := ?_) rfl (by kernel_rfl) (by kernel_rfl) (by kernel_rfl) (fun _ _ _ h => h) (Or.inl ⟨by kernel_rfl, ?_⟩) (by first | trivial | assumption) ?_
      rotate_left
      · intro w hSw
        try dsimp only at hSw
        first | (go_simp; done) | (go_simp; with_reducible rfl)
      try simp only [Act.put, List.getElem_toArray, List.getElem_cons_succ, List.getElem_cons_zero, List.setIfInBounds_toArray, List.set_cons_zero, List.set_cons_succ]
      refine wpAnyH_take (i := 5) (v := ?_) rfl (by kernel_rfl) (by kernel_rfl) (by kernel_rfl) (fun _ _ _ h => h) (Or.inl ⟨by kernel_rfl, ?_⟩) (by first | trivial | assumption) ?_
      rotate_left
      · intro w hSw
        try dsimp only at hSw
        first | (go_simp; done) | (go_simp; with_reducible rfl)
      try simp only [Act.put, List.getElem_toArray, List.getElem_cons_succ, List.getElem_cons_zero, List.setIfInBounds_toArray, List.set_cons_zero, List.set_cons_succ]
      refine wpAnyH_take (i := 6) (v := ?_) rfl (by kernel_rfl) (by kernel_rfl) (by kernel_rfl) (fun _ _ _ h => h) (Or.inl ⟨by kernel_rfl, ?_⟩) (by first | trivial | assumption) ?_
      rotate_left
      · intro w hSw
        try dsimp only at hSw
        first | (go_simp; done) | (go_simp; with_reducible rfl)
      try simp only [Act.put, List.getElem_toArray, List.getElem_cons_succ, List.getElem_cons_zero, List.setIfInBounds_toArray, List.set_cons_zero, List.set_cons_succ]
      refine wpAnyH_take (i := 7) (v := ?_) rfl (by kernel_rfl) (by kernel_rfl) (by kernel_rfl) (fun _ _ _ h => h) (Or.inl ⟨by kernel_rfl, ?_⟩) (by first | trivial | assumption) ?_
      rotate_left
      · intro w hSw
        try dsimp only at hSw
        first | (go_simp; done) | (go_simp; with_reducible rfl)
      try simp only [Act.put, List.getElem_toArray, List.getElem_cons_succ, List.getElem_cons_zero, List.setIfInBounds_toArray, List.set_cons_zero, List.set_cons_succ]
      refine wpAnyH_ready (rs := [0]) (by kernel_rfl) (by simp) ?_
      refine AllReadyH.cons rfl (fun K hK => ?_) AllReadyH.nil
      go_simp
      have hSa := HCE.out (w7.drew.alloc (.cells #[] 5)) (B7.out.drew.alloc B7.out.size _)
      refine hK.out _ _ hSa (fun hS => ?_)
      clear hK K
      try simp only [Act.put, List.getElem_toArray, List.getElem_cons_succ, List.getElem_cons_zero, List.setIfInBounds_toArray, List.set_cons_zero, List.set_cons_succ]
      refine wpAnyH_ready (rs := [3]) (by kernel_rfl) (by simp) ?_
      refine AllReadyH.cons rfl (fun K hK => ?_) AllReadyH.nil
      refine step_append_row rfl (.tmp 56) (.tmp 58) 59 rfl 5 .u8 1 w7.heap.size elt8 _ _ [] A rfl rfl O8.out (RA.out.kept ((HWW.out w7 B7.out).drew.alloc (HWW.out w7 B7.out).size _)) (by have := HLA.out; simp; omega) (by have := HLA.out; simp; omega) (by simp) A na rfl HLA.out ?_
      intro p9 c9 w9 ho9 hb9
      have O9 := Lib.hid ho9
      have B9 := Lib.hid (B7.out.trans (((Below.refl w7.heap.size w7).drew.alloc (Nat.le_refl _) (.cells #[] 5)).trans hb9 |>.mono B7.out.size))
      have C9 := Lib.hid (((Below.refl w7.heap.size w7).drew.alloc (Nat.le_refl _) (.cells #[] 5)).trans hb9)
      have hSb := HCE.out w9 B9.out
      clear ho9 hb9
      refine hK.out _ _ hSb (fun hS => ?_)
      clear hK K
      try simp only [Act.put, List.getElem_toArray, List.getElem_cons_succ, List.getElem_cons_zero, List.setIfInBounds_toArray, List.set_cons_zero, List.set_cons_succ]
      refine wpAnyH_ready (rs := [8]) (by kernel_rfl) (by simp) ?_
      refine AllReadyH.cons rfl (fun K hK => ?_) AllReadyH.nil
      refine step_append_row rfl (.tmp 59) (.tmp 63) 59 rfl 5 .u8 1 w7.heap.size elt8 _ _ A (B.take N) rfl rfl O9.out (by have h := HBT.out.kept (HWW.out w9 B9.out); first | exact h | (have e : (Value.slice pb 0 cb) = .slice pb N cb := (by rw [hN0]); rw [← e] at h; exact h)) (by have := HLA.out; have := HBT2.out; omega) (by have := HLA.out; have := HBT2.out; omega) C9.out.size (A ++ B.take N) (na + N) rfl (by rw [List.length_append, HLA.out, HBT2.out]) ?_
      intro p10 c10 w10 ho10 hb10
      have O10 := Lib.hid ho10
      have C10 := Lib.hid (C9.out.trans hb10)
      have B10 := Lib.hid (B7.out.trans (C10.out.mono B7.out.size))
      have hSc := HCE.out w10 B10.out
      clear ho10 hb10
      refine hK.out _ _ hSc (fun hS => ?_)
      clear hK K
      try simp only [Act.put, List.getElem_toArray, List.getElem_cons_succ, List.getElem_cons_zero, List.setIfInBounds_toArray, List.set_cons_zero, List.set_cons_succ]
      refine wpAnyH_take (i := 9) (v := ?_) rfl (by kernel_rfl) (by kernel_rfl) (by kernel_rfl) (fun _ _ _ h => h) (Or.inl ⟨by kernel_rfl, ?_⟩) (by first | trivial | assumption) ?_
      rotate_left
      · intro w hSw
        try dsimp only at hSw
        first | (go_simp; done) | (go_simp; with_reducible rfl)
      try simp only [Act.put, List.getElem_toArray, List.getElem_cons_succ, List.getElem_cons_zero, List.setIfInBounds_toArray, List.set_cons_zero, List.set_cons_succ]
      refine wpAnyH_done (by kernel_rfl) ?_ _
    · have HFR : Hid ((t5D A B k t).free = 2000 - (na : Int)) := by
        show (2000 : Int) - ((A ++ tornL B (keepN k B.length) t).length : Int) - (([] : List Int).length : Int) = _
        rw [HLB.out, ← HND.out, HT7.out, hN0]; simp
      have h7 := O7.out.later C10.out
      have h10 := O10.out
      rw [hN0, show tornL B 0 t = [] from rfl, List.append_nil, Nat.add_zero] at h7
      rw [hN0, List.take_zero, List.append_nil, Nat.add_zero] at h10
      have k7 := conv_row (P := Try.prog) w10 59 9 5 Try.underlying59 Try.underlying5 Try.underlying9 _ _ h7.row
      have k10 := conv_row (P := Try.prog) w10 59 9 5 Try.underlying59 Try.underlying5 Try.underlying9 _ _ h10.row
      have D10 := Lib.hid (D7.out.later C10.out)
      clear h7 h10
      go_wp2_with fail
      refine (room_any _ g g _ D10.out).mono ?_
      rintro y w11 ⟨rfl, hb11⟩
      rw [HFR.out]
      have B11 := Lib.hid (HWW.out _ (B10.out.trans (hb11.mono B10.out.size)))
      clear hb11
      go_wp2_with fail
      go_ret
      exact ⟨rfl, B11.out⟩
    · have HFR : Hid ((t5D A B k t).free = 2000 - ((na : Int) + (N : Int))) := by
        show (2000 : Int) - ((A ++ tornL B (keepN k B.length) t).length : Int) - (([] : List Int).length : Int) = _
        rw [HLB.out, ← HND.out, HT7.out]; simp
      obtain ⟨g10, rfl, hg10, hg10l, _⟩ := O10.out.at_ (by omega)
      obtain ⟨hcell, hfree⟩ := O10.out.cell (na + N - 1) (by omega)
      have hgd : (A ++ B.take N).getD (na + N - 1) 0 = B.getD (N - 1) 0 := by
        rw [List.getD_eq_getElem?_getD, List.getElem?_append_right (by rw [HLA.out]; omega), HLA.out, show na + N - 1 - na = N - 1 by omega, List.getElem?_take, if_pos (by omega), ← List.getD_eq_getElem?_getD]
      rw [hgd] at hcell
      have hxx := xor8_I (B.getD (N - 1) 0) t (OB.out.getD _) bt
      have hst : (A ++ B.take N).set (na + N - 1) (xorI (B.getD (N - 1) 0) t) = A ++ tornL B N t := by
        unfold tornL
        rw [if_neg (by omega), List.set_append_right _ _ (by rw [HLA.out]; omega), HLA.out, show na + N - 1 - na = N - 1 by omega]
      have h10 := O10.out.set (na + N - 1) (xorI (B.getD (N - 1) 0) t)
      rw [hst] at h10
      have C11 := Lib.hid (C10.out.setCell (p := ⟨g10, na + N - 1, none⟩) hg10 (.int .u8 (xorI (B.getD (N - 1) 0) t)))
      generalize B.getD (N - 1) 0 = bx at *
      have h7 := O7.out.later C11.out
      have k7 := conv_row (P := Try.prog) _ 59 9 5 Try.underlying59 Try.underlying5 Try.underlying9 _ _ h7.row
      have k10 := conv_row (P := Try.prog) _ 59 9 5 Try.underlying59 Try.underlying5 Try.underlying9 _ _ h10.row
      have D11 := Lib.hid (D7.out.later C11.out)
      have hi1 : ((na : Int) + (N : Int) - 1).toNat = na + N - 1 := by omega
      have hi2 : (0 : Int) ≤ (na : Int) + (N : Int) - 1 := by omega
      have hi3 : (na : Int) + (N : Int) - 1 < (na : Int) + (N : Int) := by omega
      have hi4 : na + N - 1 < na + N := by omega
      have BB := Lib.hid (B7.out.trans (C11.out.mono B7.out.size))
      clear h7 h10 hst hgd
      go_wp2_with fail
      refine (room_any _ g g _ D11.out).mono ?_
      rintro y w11 ⟨rfl, hb11⟩
      rw [HFR.out]
      have B11 := Lib.hid (HWW.out _ (BB.out.trans (hb11.mono BB.out.size)))
      clear hb11
      go_wp2_with fail
      go_ret
      exact ⟨rfl, B11.out⟩
  · have hg : (500 : Int) < A.length ∨ (A.length : Int) ≤ 500 ∧ (500 : Int) < B.length := by omega
    clear h1
    rcases hg with hg | ⟨hg, hg2⟩
    all_goals
      go_enter Try.func12, Try.ntmps12
      go_wp2_with fail
      have HBP := Blk.new W #[.slice pa A.length ca, .slice pb B.length cb] 71
      have HBW := oneB W (.cells #[.slice pa A.length ca, .slice pb B.length cb] 71)
      refine (keeps_any _).mono ?_
      rintro y w0 ⟨rfl, hb0⟩
      have e0 : w0.cell? ⟨W.heap.size, 0, none⟩ = some (.slice pa A.length ca) := (HBP.below hb0 HBP.lt).cell 0
      have e1 : w0.cell? ⟨W.heap.size, 1, none⟩ = some (.slice pb B.length cb) := (HBP.below hb0 HBP.lt).cell 1
      have HF := Lib.hid (HBW.trans (hb0.mono HBW.size))
      clear HBP HBW hb0
      go_wp2_with fail
      go_ret
      exact ⟨rfl, HF.out⟩
end Go.Proofs.Ytikpffaompaaiaa
