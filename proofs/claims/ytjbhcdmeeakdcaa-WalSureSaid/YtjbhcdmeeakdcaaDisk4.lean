/- A disk's methods by contract: New, Sync, Up, Write, Renew. -/
import Derived.Test.YtjbhcdmeeakdcaaDisk3
namespace Go.Proofs.Ytjbhcdmeeakdcaa
open Go.RowKit
set_option maxHeartbeats 2000000 in
theorem new_any (room : Int) (w : World) :
    Calls Try.prog 12 #[.int .i64 room] w fun x w' => Below w.heap.size w w' ∧ (¬ (0 ≤ room ∧ room ≤ 4194304) → x = .returned (.tuple #[.pointer none, .int .i64 1])) ∧
      (0 ≤ room ∧ room ≤ 4194304 → x = .returned (.tuple #[.pointer (some ⟨w.heap.size, 0, none⟩), .int .i64 0]) ∧ Dk w' w.heap.size w.heap.size (newD room.toNat)) := by
  by_cases h : 0 ≤ room ∧ room ≤ 4194304
  · obtain ⟨h1, h2⟩ := h
    obtain ⟨R, rfl⟩ : ∃ R : Nat, room = R := ⟨room.toNat, by omega⟩
    go_enter Try.func12, Try.ntmps12
    go_wp2_with fail
    go_ret2
    refine ⟨oneB w _, fun h3 => absurd ⟨h1, h2⟩ h3, fun _ => ⟨rfl, ?_⟩⟩
    exact ⟨.slice none 0 0, .slice none 0 0, Blk.new w _ _, Own.nil_ _ _ _ _, Own.nil_ _ _ _ _, (fun e => by cases e), (fun e => by cases e), (fun b e => by cases e), Nat.le_refl _, new_ok (by omega)⟩
  · have hg : room < 0 ∨ 0 ≤ room ∧ 4194304 < room := by omega
    rcases hg with hg | ⟨hg, hg2⟩
    all_goals
      go_enter Try.func12, Try.ntmps12
      go_wp2_with fail
      go_ret2
      exact ⟨Below.refl _ _, fun _ => rfl, fun h3 => absurd h3 h⟩
set_option maxHeartbeats 2000000 in
theorem sync_anyP (P : Nat → Prop) (w : World) (base g : Nat) (d : DSt) (h : Dkp P w base g d) :
    Calls Try.prog 36 #[.pointer (some ⟨g, 0, none⟩)] w fun x w' => x = .returned (.int .i64 d.syncE) ∧ Dkp P w' base g d.syncD ∧ BelowP P base w w' := by
  have HD := Lib.hid h
  have HS := Lib.hid (settle_anyP P w base g d h)
  obtain ⟨vs, vr, hb, _⟩ := h
  have c4 : w.cell? ⟨g, 4, none⟩ = some (.bool d.dn) := hb.cell 4
  clear hb
  unfold DSt.syncE DSt.syncD
  cases hd : d.dn
  · rw [hd] at c4
    go_enter Try.func36, Try.ntmps36
    go_wp2_with fail
    refine HS.out.mono ?_
    rintro y w1 ⟨rfl, hd1, hb1⟩
    go_wp2_with fail
    go_ret
    exact ⟨rfl, hd1, hb1⟩
  · rw [hd] at c4
    go_enter Try.func36, Try.ntmps36
    go_wp2_with fail
    go_ret
    exact ⟨rfl, HD.out, BelowP.refl _ _ _⟩
theorem sync_any (w : World) (base g : Nat) (d : DSt) (h : Dk w base g d) :
    Calls Try.prog 36 #[.pointer (some ⟨g, 0, none⟩)] w fun x w' => x = .returned (.int .i64 d.syncE) ∧ Dk w' base g d.syncD ∧ Below base w w' :=
  (sync_anyP none_ w base g d h.dkp).mono fun _ _ ⟨h1, h2, h3⟩ => ⟨h1, h2.dk, h3.1⟩
theorem give_dn (d : DSt) (b : Bool) : ({ d with dn := b } : DSt).giveD = { d.giveD with dn := b } := by unfold DSt.giveD; split <;> rfl
theorem give_dk {P : Nat → Prop} {w w1 : World} {base g : Nat} {d : DSt} {vs vr : Value} (hc : Chg g w w1) (hb : Blk w1 g (cellsD d.giveD vs (if d.nw = true then .slice none 0 0 else vr)) 65) (k1 : Own .u8 w base 5 vs d.S) (k2 : Own .u8 w base 5 vr d.R)
    (k3 : vs.ownBlock ≠ some g) (k4 : vr.ownBlock ≠ some g) (k5 : ∀ b, vs.ownBlock = some b → vr.ownBlock ≠ some b) (k6 : base ≤ g) (k7 : d.giveD.Ok) (kP : PFar P w g vs vr) : Dkp P w1 base g d.giveD := by
  refine ⟨vs, _, hb, by rw [give_S]; exact k1.chgV hc k3, ?_, k3, ?_, ?_, k6, k7, kP.1, kP.2.1, ?_, fun b hb => Nat.lt_of_lt_of_le (kP.2.2.2 b hb) hc.size⟩
  · unfold DSt.giveD
    split
    · exact Own.nil_ _ _ _ _
    · exact k2.chgV hc k4
  · split
    · intro e; cases e
    · exact k4
  · split
    · intro b _ e; cases e
    · exact k5
  · split
    · intro b e; cases e
    · exact kP.2.2.1
set_option maxHeartbeats 2000000 in
theorem up_anyP (P : Nat → Prop) (w : World) (base g : Nat) (d : DSt) (h : Dkp P w base g d) (hf : d.Fits) :
    Calls Try.prog 22 #[.pointer (some ⟨g, 0, none⟩)] w fun x w' => x = .returned (.tuple #[]) ∧ Dkp P w' base g d.upD ∧ BelowP P base w w' := by
  have HD := Lib.hid h
  obtain ⟨vs, vr, hb, k1, k2, k3, k4, k5, k6, k7, kP⟩ := h
  have HPg := Lib.hid kP.1
  have HB := Lib.hid hb
  have c4 : w.cell? ⟨g, 4, none⟩ = some (.bool d.dn) := hb.cell 4
  have f4 := hb.free 4
  have hlt := hb.lt
  unfold DSt.upD
  cases hd : d.dn
  · rw [hd] at c4
    clear hb
    go_enter Try.func22, Try.ntmps22
    go_wp2_with fail
    refine bodyPost_ret (results_none rfl _ _ _) rfl ?_
    exact ⟨rfl, HD.out, BelowP.refl _ _ _⟩
  · rw [hd] at c4
    have HU : Hid (Blk (w.setCell ⟨g, 4, none⟩ (.bool false)) g (cellsD { d with dn := false } vs vr) 65) := hb.set 4 _
    have HC : Hid (Chg g w (w.setCell ⟨g, 4, none⟩ (.bool false))) := (Chg.refl g w).set 4 _
    have HG := Lib.hid (fun (w1 : World) (hc1 : Chg g w w1) (hb1 : Blk w1 g (cellsD ({ d with dn := false } : DSt).giveD vs (if d.nw = true then .slice none 0 0 else vr)) 65) => give_dk (d := { d with dn := false }) hc1 hb1 k1 k2 k3 k4 k5 k6 (by rw [give_dn]; exact give_ok k7 hf) kP)
    have hgl : base ≤ w.heap.size := Nat.le_of_lt (Nat.lt_of_le_of_lt k6 hlt)
    rw [give_dn] at HG
    clear hb k1 k2 k5 k7 kP
    go_enter Try.func22, Try.ntmps22
    go_wp2_with fail
    refine (give_any _ g { d with dn := false } vs vr HU.out).mono ?_
    rintro y w1 ⟨rfl, hc1, hb1⟩
    rw [give_dn] at hb1
    have C1 := Lib.hid (HC.out.trans hc1)
    have HDK := Lib.hid (HG.out w1 C1.out hb1)
    clear hc1 hb1
    go_wp2_with fail
    refine (settle_anyP P w1 base g _ HDK.out).mono ?_
    rintro y w2 ⟨rfl, hd2, hb2⟩
    have D2 := Lib.hid hd2
    have B2 := Lib.hid ((BelowP.chg C1.out k6 hgl HPg.out).trans hb2)
    clear hd2 hb2
    go_wp2_with fail
    go_end0
    exact ⟨rfl, D2.out, B2.out⟩
theorem up_any (w : World) (base g : Nat) (d : DSt) (h : Dk w base g d) (hf : d.Fits) :
    Calls Try.prog 22 #[.pointer (some ⟨g, 0, none⟩)] w fun x w' => x = .returned (.tuple #[]) ∧ Dk w' base g d.upD ∧ Below base w w' :=
  (up_anyP none_ w base g d h.dkp hf).mono fun _ _ ⟨h1, h2, h3⟩ => ⟨h1, h2.dk, h3.1⟩
theorem write_dk {P : Nat → Prop} {w3 w4 : World} {base g : Nat} {d : DSt} {vs vr v2 : Value} {ys : List Int} (hb : Blk w3 g (cellsD d vs vr) 65) (k1 : Own .u8 w3 base 5 vs d.S) (k3 : vs.ownBlock ≠ some g) (k4 : vr.ownBlock ≠ some g) (k5 : ∀ b, vs.ownBlock = some b → vr.ownBlock ≠ some b) (k6 : base ≤ g)
    (hbr : ∀ b, vr.ownBlock = some b → base ≤ b) (ho : Own .u8 w4 base 5 v2 (d.R ++ ys)) (hg : w3.grownBy w4 vr.ownBlock) (hor : v2.ownBlock = vr.ownBlock ∨ v2.ownBlock = some w3.heap.size) (hok : ({ d with R := d.R ++ ys } : DSt).Ok) (kP : PFar P w3 g vs vr) :
    Dkp P (w4.setCell ⟨g, 2, none⟩ v2) base g { d with R := d.R ++ ys } ∧ BelowP P base w3 (w4.setCell ⟨g, 2, none⟩ v2) := by
  have hlt := hb.lt
  have h2 : Blk w4 g (cellsD d vs vr) 65 := hb.grown hg (fun e => k4 e.symm)
  have hc : Chg g w4 (w4.setCell ⟨g, 2, none⟩ v2) := (Chg.refl g w4).set 2 _
  have hne : v2.ownBlock ≠ some g := by
    rcases hor with h | h <;> rw [h]
    · exact k4
    · intro e; cases e; omega
  have hb1 : BelowP P base w3 w4 := BelowP.grown hg (by omega) hbr kP.2.2.1
  have hs1 := hb1.1.size
  refine ⟨⟨vs, v2, h2.set 2 v2, (k1.grown hg k5).chgV hc k3, ho.chgV hc hne, k3, hne, ?_, k6, hok, kP.1, kP.2.1, ?_, fun b hb => by have := kP.2.2.2 b hb; have := hc.size; omega⟩, hb1.trans (BelowP.chg hc k6 (by omega) kP.1)⟩
  · intro b e
    rcases hor with h | h <;> rw [h]
    · exact k5 b e
    · intro e2; cases e2; have := k1.lt _ e; omega
  · intro b e hb
    rcases hor with h | h
    · exact kP.2.2.1 b (h.symm.trans e) hb
    · rw [h] at e; cases e; have := kP.2.2.2 _ hb; omega
set_option linter.unusedSimpArgs false in
set_option maxHeartbeats 4000000 in
set_option maxRecDepth 100000 in
theorem write_anyP (P : Nat → Prop) (w : World) (base g : Nat) (d : DSt) (vb : Value) (zs : List Int) (h : Dkp P w base g d) (ho : Oct zs) (hrow : ∃ g0, g0 ≠ g ∧ RowAt .u8 w g0 vb zs) :
    Calls Try.prog 25 #[.pointer (some ⟨g, 0, none⟩), vb] w fun x w' => x = .returned (.int .i64 (d.writeE zs.length)) ∧ Dkp P w' base g (d.writeD zs) ∧ BelowP P base w w' := by
  obtain ⟨g0, hg0, hat⟩ := hrow
  obtain ⟨p, c, rfl⟩ := hat.shape
  have HD := Lib.hid h
  have hgl : base ≤ w.heap.size := by obtain ⟨_, _, hb, _, _, _, _, _, k6, _⟩ := h; exact Nat.le_of_lt (Nat.lt_of_le_of_lt k6 hb.lt)
  have HRM := Lib.hid (room_any w base g d h.dk)
  obtain ⟨vs, vr, hb, k1, k2, k3, k4, k5, k6, k7, kP⟩ := h
  have HPg := Lib.hid kP.1
  have HREF := Lib.hid (fun (w' : World) (h' : Below w.heap.size w w') => refuses_any w' g d vs vr zs.length d.free (hb.below h' hb.lt))
  by_cases hr : d.dn = true ∨ d.free < zs.length
  · have HE : Hid ((if d.dn = true then 60 else if d.free < zs.length then 3 else 0) = d.writeE zs.length ∧ d.writeE zs.length ≠ 0) := by
      show _ ∧ _
      unfold DSt.writeE
      rcases hr with hr | hr
      · rw [if_pos hr, if_pos hr]; exact ⟨rfl, by decide⟩
      · by_cases h2 : d.dn = true
        · rw [if_pos h2, if_pos h2]; exact ⟨rfl, by decide⟩
        · rw [if_neg h2, if_neg h2, if_pos hr, if_pos hr]; exact ⟨rfl, by decide⟩
    have HW : Hid (d.writeD zs = d) := by show _ = _; unfold DSt.writeD; rw [if_pos hr]
    rw [HE.out.1] at HREF
    have hne := HE.out.2
    generalize d.writeE zs.length = eW at *
    clear hb k1 k2 k5 k7 kP hr
    have hne2 : (eW != 0) = true := by simpa using hne
    go_enter Try.func25, Try.ntmps25
    go_wp2_with fail
    refine HRM.out.mono ?_
    rintro y w1 ⟨rfl, hb1⟩
    have B1 := Lib.hid hb1
    clear hb1
    go_wp2_with fail
    refine (HREF.out w1 B1.out).mono ?_
    rintro y w2 ⟨rfl, rfl⟩
    go_wp2_with fail
    go_ret
    exact ⟨rfl, by rw [HW.out]; exact HD.out.kept B1.out, BelowP.of B1.out hgl⟩
  · have hdn : d.dn = false := by cases h2 : d.dn; rfl; exact absurd (.inl h2) hr
    have hfr : (zs.length : Int) ≤ d.free := by
      have : ¬ d.free < zs.length := fun h => hr (.inr h)
      omega
    have hn8 : zs.length ≤ 4194304 := by
      have h2 : d.free = (d.room : Int) - (d.ahead.length : Int) - (d.R.length : Int) := rfl
      have h3 := k7.1
      omega
    have HE0 : Hid ((if d.dn = true then 60 else if d.free < zs.length then 3 else 0 : Int) = 0) := by show _ = _; rw [hdn, if_neg (by decide), if_neg (by omega)]
    have HWE : Hid ((if spendE d.left zs.length = true then 60 else 0 : Int) = d.writeE zs.length) := by
      show _ = (if d.dn = true then (60 : Int) else if d.free < zs.length then 3 else if spendE d.left zs.length = true then 60 else 0)
      rw [hdn, if_neg (show ¬ (false = true) by decide), if_neg (show ¬ d.free < (zs.length : Int) by omega)]
    obtain ⟨N, hNd⟩ : ∃ N, N = spendN d.left zs.length := ⟨_, rfl⟩
    have hNl : N ≤ zs.length := by rw [hNd]; exact spendN_le _ _
    have HWD : Hid (d.writeD zs = { d.spentD zs.length with R := (d.spentD zs.length).R ++ zs.take N }) := by
      show _ = _
      unfold DSt.writeD DSt.spentD
      rw [if_neg hr, hdn, Bool.false_or, hNd]
    have hwok := write_ok (d := d) (zs := zs) k7 ho
    rw [HWD.out] at hwok
    have HSP := Lib.hid (fun (w' : World) (h' : Below w.heap.size w w') => spend_any w' g d vs vr zs.length (by omega) k7.2.2.2.2.2.2.1 k7.2.2.2.2.2.2.2.1 (hb.below h' hb.lt))
    have HFIN := Lib.hid (fun (w3 w4 : World) (v2 : Value) (h3 : Chg g w w3) (hb3 : Blk w3 g (cellsD (d.spentD zs.length) vs vr) 65) (ho4 : Own .u8 w4 base 5 v2 (d.R ++ zs.take N)) (hg4 : w3.grownBy w4 vr.ownBlock) (hor : v2.ownBlock = vr.ownBlock ∨ v2.ownBlock = some w3.heap.size) =>
      write_dk (d := d.spentD zs.length) hb3 (k1.chgV h3 k3) k3 k4 k5 k6 k2.block_ge ho4 hg4 hor hwok (kP.mono h3.size))
    have HK2 := Lib.hid (fun (w' : World) (h' : Chg g w w') => k2.chgV h' k4)
    have HAT := Lib.hid (fun (w' : World) (h' : Chg g w w') => (hat.chg h' hg0).take N hNl)
    have hcz : zs.length ≤ c := by obtain ⟨_, _, e, h2, _⟩ := id hat; cases e; exact h2
    have hTl : (zs.take N).length = N := by rw [List.length_take]; omega
    have HTL := Lib.hid hTl
    have hRl : d.R.length ≤ 4194304 := k7.2.2.2.2.1
    obtain ⟨pr, cr, rfl⟩ := k2.form
    have hNc : (N : Int) ≤ (c : Int) := by omega
    have hor0 : N = 0 ∨ 0 < N ∧ ∃ o, p = some ⟨g0, o, none⟩ := by
      by_cases h0 : N = 0
      · exact .inl h0
      · right
        obtain ⟨_, _, e, _, h2⟩ := id hat
        cases e
        rcases h2 with h2 | ⟨o, h2, _⟩
        · rw [h2] at hNl; simp at hNl; omega
        · exact ⟨by omega, o, h2⟩
    rw [HE0.out] at HREF
    rw [HWE.out, ← hNd] at HSP
    have HGR : Hid (∀ (w3 w4 : World), Blk w3 g (cellsD (d.spentD zs.length) vs (.slice pr d.R.length cr)) 65 → w3.grownBy w4 (Value.slice pr d.R.length cr).ownBlock → Blk w4 g (cellsD (d.spentD zs.length) vs (.slice pr d.R.length cr)) 65) := fun w3 w4 h1 h2 => h1.grown h2 (fun e => k4 e.symm)
    generalize d.writeE zs.length = eW at *
    have hgw : g < w.heap.size := hb.lt
    clear hb k1 k2 k5 k7 kP hr hat hwok hTl hNd
    rcases hor0 with hN0 | ⟨hN0, o0, rfl⟩
    all_goals
      go_enter Try.func25, Try.ntmps25
      go_wp2_with fail
      refine HRM.out.mono ?_
      rintro y w1 ⟨rfl, hb1⟩
      have B1 := Lib.hid hb1
      clear hb1
      go_wp2_with fail
      refine (HREF.out w1 B1.out).mono ?_
      rintro y w2 ⟨rfl, rfl⟩
      go_wp2_with fail
      refine (HSP.out w1 B1.out).mono ?_
      rintro y w3 ⟨rfl, hc3, hb3⟩
      have C3 := Lib.hid ((Chg.of_below B1.out).trans hc3)
      have HB3 := Lib.hid hb3
      have c2 : w3.cell? ⟨g, 2, none⟩ = some (.slice pr d.R.length cr) := hb3.cell 2
      have hlt3 := hb3.lt
      clear hc3 hb3
      go_wp2_with fail
      refine wp_region_held_drew (S := fun _ => True) (by kernel_rfl) trivial (fun _ => ?_)
      refine wpAnyH_take (i := 0) (v := ?_) rfl (by kernel_rfl) (by kernel_rfl) (by kernel_rfl) (fun _ _ _ h => h) (Or.inl ⟨by kernel_rfl, ?_⟩) (by first | trivial | assumption) ?_
      rotate_left
      · intro w hSw
        try dsimp only at hSw
        first | (go_simp; done) | (go_simp; with_reducible rfl)
      try simp only [Act.put, List.getElem_toArray, List.getElem_cons_succ, List.getElem_cons_zero, List.setIfInBounds_toArray, List.set_cons_zero, List.set_cons_succ]
      refine wpAnyH_take (i := 1) (v := ?_) rfl (by kernel_rfl) (by kernel_rfl) (by kernel_rfl) (fun _ _ _ h => h) (Or.inl ⟨by kernel_rfl, ?_⟩) (by first | trivial | assumption) ?_
      rotate_left
      · intro w hSw
        try dsimp only at hSw
        first | (go_simp; done) | (go_simp; with_reducible rfl)
      try simp only [Act.put, List.getElem_toArray, List.getElem_cons_succ, List.getElem_cons_zero, List.setIfInBounds_toArray, List.set_cons_zero, List.set_cons_succ]
      refine wpAnyH_take (i := 2) (v := ?_) rfl (by kernel_rfl) (by kernel_rfl) (by kernel_rfl) (fun _ _ _ h => h) (Or.inl ⟨by kernel_rfl, ?_⟩) (by first | trivial | assumption) ?_
      rotate_left
      · intro w hSw
        try dsimp only at hSw
        first | (go_simp; done) | (go_simp; with_reducible rfl)
      try simp only [Act.put, List.getElem_toArray, List.getElem_cons_succ, List.getElem_cons_zero, List.setIfInBounds_toArray, List.set_cons_zero, List.set_cons_succ]
      refine wpAnyH_take (i := 3) (v := ?_) rfl (by kernel_rfl) (by kernel_rfl) (by kernel_rfl) (fun _ _ _ h => h) (Or.inl ⟨by kernel_rfl, ?_⟩) (by first | trivial | assumption) ?_
      rotate_left
      · intro w hSw
        try dsimp only at hSw
        first | (go_simp; done) | (go_simp; with_reducible rfl)
      try simp only [Act.put, List.getElem_toArray, List.getElem_cons_succ, List.getElem_cons_zero, List.setIfInBounds_toArray, List.set_cons_zero, List.set_cons_succ]
      refine wpAnyH_take (i := 5) (v := ?_) rfl (by kernel_rfl) (by kernel_rfl) (by kernel_rfl) (fun _ _ _ h => h) (Or.inl ⟨by kernel_rfl, ?_⟩) (by first | trivial | assumption) ?_
      rotate_left
      · intro w hSw
        try dsimp only at hSw
        first | (go_simp; done) | (go_simp; with_reducible rfl)
      try simp only [Act.put, List.getElem_toArray, List.getElem_cons_succ, List.getElem_cons_zero, List.setIfInBounds_toArray, List.set_cons_zero, List.set_cons_succ]
      refine wpAnyH_take (i := 6) (v := ?_) rfl (by kernel_rfl) (by kernel_rfl) (by kernel_rfl) (fun _ _ _ h => h) (Or.inl ⟨by kernel_rfl, ?_⟩) (by first | trivial | assumption) ?_
      rotate_left
      · intro w hSw
        try dsimp only at hSw
        first | (go_simp; done) | (go_simp; with_reducible rfl)
      try simp only [Act.put, List.getElem_toArray, List.getElem_cons_succ, List.getElem_cons_zero, List.setIfInBounds_toArray, List.set_cons_zero, List.set_cons_succ]
      refine wpAnyH_take (i := 7) (v := ?_) rfl (by kernel_rfl) (by kernel_rfl) (by kernel_rfl) (fun _ _ _ h => h) (Or.inl ⟨by kernel_rfl, ?_⟩) (by first | trivial | assumption) ?_
      rotate_left
      · intro w hSw
        try dsimp only at hSw
        first | (go_simp; done) | (go_simp; with_reducible rfl)
      try simp only [Act.put, List.getElem_toArray, List.getElem_cons_succ, List.getElem_cons_zero, List.setIfInBounds_toArray, List.set_cons_zero, List.set_cons_succ]
      refine wpAnyH_ready (rs := [4]) (by kernel_rfl) (by simp) ?_
      refine AllReadyH.cons rfl (fun K hK => ?_) AllReadyH.nil
      go_simp
      refine hK.out _ _ trivial (fun hS => ?_)
      clear hK K
      try simp only [Act.put, List.getElem_toArray, List.getElem_cons_succ, List.getElem_cons_zero, List.setIfInBounds_toArray, List.set_cons_zero, List.set_cons_succ]
      refine wpAnyH_ready (rs := [8]) (by kernel_rfl) (by simp) ?_
      refine AllReadyH.cons rfl (fun K hK => ?_) AllReadyH.nil
      refine step_append_g rfl (.tmp 28) (.tmp 31) 34 rfl 5 .u8 1 base elt8 (.slice pr d.R.length cr) _ d.R (zs.take N) rfl rfl (HK2.out _ C3.out.drew) (by have h := (HAT.out _ C3.out.drew).row; first | exact h | (have e : (Value.slice p 0 c) = .slice p N c := (by rw [hN0]); rw [← e] at h; exact h)) (by have := HTL.out; omega) (by have := HTL.out; omega) (by show _ ≤ w3.heap.size; omega) ?_
      intro v4 w4 ho4 hg4 hor4
      obtain ⟨p4, q4, hv4⟩ := ho4.form
      generalize (d.R ++ zs.take N).length = n4 at hv4
      subst hv4
      have hb4 := HGR.out w3.drew w4 HB3.out hg4
      have e2 : w4.cell? ⟨g, 2, none⟩ = some (.slice pr d.R.length cr) := hb4.cell 2
      have f2 := hb4.free 2
      have hlt4 := hb4.lt
      have HF4 := Lib.hid (HFIN.out w3.drew w4 (.slice p4 n4 q4) C3.out.drew HB3.out ho4 hg4 hor4)
      clear ho4 hg4 hor4 hb4
      refine hK.out _ _ trivial (fun hS => ?_)
      clear hK K
      try simp only [Act.put, List.getElem_toArray, List.getElem_cons_succ, List.getElem_cons_zero, List.setIfInBounds_toArray, List.set_cons_zero, List.set_cons_succ]
      refine wpAnyH_take (i := 9) (v := ?_) rfl (by kernel_rfl) (by kernel_rfl) (by kernel_rfl) (fun _ _ _ h => h) (Or.inl ⟨by kernel_rfl, ?_⟩) (by first | trivial | assumption) ?_
      rotate_left
      · intro w hSw
        try dsimp only at hSw
        first | (go_simp; done) | (go_simp; with_reducible rfl)
      try simp only [Act.put, List.getElem_toArray, List.getElem_cons_succ, List.getElem_cons_zero, List.setIfInBounds_toArray, List.set_cons_zero, List.set_cons_succ]
      refine wpAnyH_take (i := 10) (v := ?_) rfl (by kernel_rfl) (by kernel_rfl) (by kernel_rfl) (fun _ _ _ h => h) (Or.inl ⟨by kernel_rfl, ?_⟩) (by first | trivial | assumption) ?_
      rotate_left
      · intro w hSw
        try dsimp only at hSw
        first | (go_simp; done) | (go_simp; with_reducible rfl)
      try simp only [Act.put, List.getElem_toArray, List.getElem_cons_succ, List.getElem_cons_zero, List.setIfInBounds_toArray, List.set_cons_zero, List.set_cons_succ]
      refine wpAnyH_ready (rs := [11]) (by kernel_rfl) (by simp) ?_
      refine AllReadyH.cons rfl (fun K hK => ?_) AllReadyH.nil
      go_simp
      refine hK.out _ _ trivial (fun hS => ?_)
      clear hK K
      try simp only [Act.put, List.getElem_toArray, List.getElem_cons_succ, List.getElem_cons_zero, List.setIfInBounds_toArray, List.set_cons_zero, List.set_cons_succ]
      refine wpAnyH_done (by kernel_rfl) ?_ _
      go_wp2_with fail
      go_ret
      exact ⟨rfl, by rw [HWD.out]; exact HF4.out.1, (BelowP.chg C3.out.drew k6 hgl HPg.out).trans HF4.out.2⟩
theorem write_any (w : World) (base g : Nat) (d : DSt) (vb : Value) (zs : List Int) (h : Dk w base g d) (ho : Oct zs) (hrow : ∃ g0, g0 ≠ g ∧ RowAt .u8 w g0 vb zs) :
    Calls Try.prog 25 #[.pointer (some ⟨g, 0, none⟩), vb] w fun x w' => x = .returned (.int .i64 (d.writeE zs.length)) ∧ Dk w' base g (d.writeD zs) ∧ Below base w w' :=
  (write_anyP none_ w base g d vb zs h.dkp ho hrow).mono fun _ _ ⟨h1, h2, h3⟩ => ⟨h1, h2.dk, h3.1⟩
end Go.Proofs.Ytjbhcdmeeakdcaa
