/- A disk's methods by contract: Renew, Crash. -/
import Derived.Test.YtjbhcdmeeakdcaaDisk4
namespace Go.Proofs.Ytjbhcdmeeakdcaa
open Go.RowKit
theorem renew_dk {P : Nat → Prop} {w3 w4 : World} {base g : Nat} {d : DSt} {vs vr v4 : Value} {zs : List Int} {l : Int} (hb : Blk w3 g (cellsD d vs vr) 65) (k1 : Own .u8 w3 base 5 vs d.S) (k3 : vs.ownBlock ≠ some g) (k6 : base ≤ g)
    (h4 : Below w3.heap.size w3 w4) (ho : Own .u8 w4 w3.heap.size 5 v4 zs) (hl : d.left = l) (hok : ({ d with R := zs, nw := true, left := l } : DSt).Ok) (kP : PFar P w3 g vs vr) :
    Dkp P ((w4.setCell ⟨g, 2, none⟩ v4).setCell ⟨g, 3, none⟩ (.bool true)) base g { d with R := zs, nw := true, left := l } ∧ BelowP P base w3 ((w4.setCell ⟨g, 2, none⟩ v4).setCell ⟨g, 3, none⟩ (.bool true)) := by
  subst hl
  have hlt := hb.lt
  have h2 : Blk w4 g (cellsD d vs vr) 65 := hb.below h4 hlt
  have hc : Chg g w4 ((w4.setCell ⟨g, 2, none⟩ v4).setCell ⟨g, 3, none⟩ (.bool true)) := ((Chg.refl g w4).set 2 _).set 3 _
  have hne : v4.ownBlock ≠ some g := by
    intro e
    have := ho.block_ge g e
    omega
  refine ⟨⟨vs, v4, (h2.set 2 v4).set 3 (.bool true), (k1.later h4).chgV hc k3, (own_less ho (by omega)).chgV hc hne, k3, hne, ?_, k6, hok, kP.1, kP.2.1, ?_, fun b hb => by have := kP.2.2.2 b hb; have := hc.size; have := h4.size; omega⟩, (BelowP.of h4 (by omega)).trans (BelowP.chg hc k6 (by have := h4.size; omega) kP.1)⟩
  · intro b e e2
    have h5 := k1.lt b e
    have h6 := ho.block_ge b e2
    omega
  · intro b e hb
    have h5 := ho.block_ge b e
    have h6 := kP.2.2.2 b hb
    omega
set_option linter.unusedSimpArgs false in
set_option maxHeartbeats 4000000 in
set_option maxRecDepth 100000 in
theorem renew_anyP (P : Nat → Prop) (w : World) (base g : Nat) (d : DSt) (vb : Value) (zs : List Int) (h : Dkp P w base g d) (ho : Oct zs) (hrow : ∃ g0, g0 ≠ g ∧ RowAt .u8 w g0 vb zs) :
    Calls Try.prog 35 #[.pointer (some ⟨g, 0, none⟩), vb] w fun x w' => x = .returned (.int .i64 (d.renewE zs.length)) ∧ Dkp P w' base g (d.renewD zs) ∧ BelowP P base w w' := by
  obtain ⟨g0, hg0, hat⟩ := hrow
  obtain ⟨p, c, rfl⟩ := hat.shape
  have HD := Lib.hid h
  have hgl : base ≤ w.heap.size := by obtain ⟨_, _, hb, _, _, _, _, _, k6, _⟩ := h; exact Nat.le_of_lt (Nat.lt_of_le_of_lt k6 hb.lt)
  obtain ⟨vs, vr, hb, k1, k2, k3, k4, k5, k6, k7, kP⟩ := h
  have HPg := Lib.hid kP.1
  have c0 : w.cell? ⟨g, 0, none⟩ = some (.int .i64 d.room) := hb.cell 0
  have HREF := Lib.hid (fun (w' : World) (h' : Below w.heap.size w w') => refuses_any w' g d vs vr zs.length d.room (hb.below h' hb.lt))
  by_cases hr : d.dn = true ∨ d.room < zs.length
  · have HE : Hid ((if d.dn = true then 60 else if (d.room : Int) < zs.length then 3 else 0) = d.renewE zs.length ∧ d.renewE zs.length ≠ 0) := by
      show _ ∧ _
      unfold DSt.renewE
      rcases hr with hr | hr
      · rw [if_pos hr, if_pos hr]; exact ⟨rfl, by decide⟩
      · by_cases h2 : d.dn = true
        · rw [if_pos h2, if_pos h2]; exact ⟨rfl, by decide⟩
        · rw [if_neg h2, if_neg h2, if_pos (by omega), if_pos (by omega)]; exact ⟨rfl, by decide⟩
    have HW : Hid (d.renewD zs = d) := by show _ = _; unfold DSt.renewD; rw [if_pos (by omega)]
    rw [HE.out.1] at HREF
    have hne := HE.out.2
    generalize d.renewE zs.length = eW at *
    clear hb k1 k2 k5 k7 kP hr
    have hne2 : (eW != 0) = true := by simpa using hne
    go_enter Try.func35, Try.ntmps35
    go_wp2_with fail
    refine (HREF.out w (Below.refl _ _)).mono ?_
    rintro y w2 ⟨rfl, rfl⟩
    go_wp2_with fail
    go_ret
    exact ⟨rfl, by rw [HW.out]; exact HD.out, BelowP.refl _ _ _⟩
  · have hdn : d.dn = false := by cases h2 : d.dn; rfl; exact absurd (.inl h2) hr
    have hfr : zs.length ≤ d.room := by
      have : ¬ d.room < zs.length := fun h => hr (.inr h)
      omega
    have hn8 : zs.length ≤ 4194304 := by have h3 := k7.1; omega
    have HE0 : Hid ((if d.dn = true then 60 else if (d.room : Int) < zs.length then 3 else 0 : Int) = 0) := by show _ = _; rw [hdn, if_neg (by decide), if_neg (by omega)]
    have HWE : Hid ((if spendE d.left zs.length = true then 60 else 0 : Int) = d.renewE zs.length) := by
      show _ = (if d.dn = true then (60 : Int) else if d.room < zs.length then 3 else if spendE d.left zs.length = true then 60 else 0)
      rw [hdn, if_neg (show ¬ (false = true) by decide), if_neg (show ¬ d.room < zs.length by omega)]
    have HSP := Lib.hid (spend_any w g d vs vr zs.length (by omega) k7.2.2.2.2.2.2.1 k7.2.2.2.2.2.2.2.1 hb)
    have hrok := renew_ok (d := d) (zs := zs) k7 ho
    have HRD : Hid (d.renewD zs = if spendE d.left zs.length = true then { d with left := -1, dn := true } else { d with R := zs, nw := true, left := spendL d.left zs.length }) := by show _ = _; unfold DSt.renewD; rw [if_neg hr]
    rw [HRD.out] at hrok
    rw [HE0.out] at HREF
    by_cases hs : spendE d.left zs.length = true
    · rw [if_pos hs] at hrok HRD HWE
      rw [if_pos hs] at HSP
      have HSD : Hid (d.spentD zs.length = { d with left := -1, dn := true }) := by
        show _ = _
        unfold DSt.spentD spendL
        have h0 : ¬ d.left < 0 := by unfold spendE at hs; rw [decide_eq_true_eq] at hs; omega
        rw [hs, if_neg h0, if_pos rfl, Bool.or_true]
      rw [HSD.out] at HSP
      have HFIN := Lib.hid (fun (w' : World) (hc : Chg g w w') (hb' : Blk w' g (cellsD { d with left := -1, dn := true } vs vr) 65) => (⟨vs, vr, hb', k1.chgV hc k3, k2.chgV hc k4, k3, k4, k5, k6, hrok, kP.mono hc.size⟩ : Dkp P w' base g { d with left := -1, dn := true }))
      rw [← HWE.out]
      clear hb k1 k2 k5 k7 kP hr hrok
      go_enter Try.func35, Try.ntmps35
      go_wp2_with fail
      refine (HREF.out w (Below.refl _ _)).mono ?_
      rintro y w2 ⟨rfl, rfl⟩
      go_wp2_with fail
      refine HSP.out.mono ?_
      rintro y w3 ⟨rfl, hc3, hb3⟩
      have F3 := Lib.hid (HFIN.out w3 hc3 hb3)
      have C3 := Lib.hid hc3
      clear hc3 hb3
      go_wp2_with fail
      go_ret
      exact ⟨rfl, by rw [HRD.out]; exact F3.out, BelowP.chg C3.out k6 hgl HPg.out⟩
    · rw [if_neg hs] at hrok HRD HWE
      rw [if_neg hs] at HSP
      have HFIN := Lib.hid (fun (w3 w4 : World) (v4 : Value) (hc : Chg g w w3) (hb3 : Blk w3 g (cellsD (d.spentD zs.length) vs vr) 65) (h4 : Below w3.heap.size w3 w4) (ho4 : Own .u8 w4 w3.heap.size 5 v4 zs) => renew_dk (d := d.spentD zs.length) (l := spendL d.left zs.length) hb3 (k1.chgV hc k3) k3 k6 h4 ho4 rfl (by
        have e : ({ d.spentD zs.length with R := zs, nw := true, left := spendL d.left zs.length } : DSt) = { d with R := zs, nw := true, left := spendL d.left zs.length } := by
          unfold DSt.spentD
          rw [hdn, Bool.not_eq_true _ |>.mp hs]; rfl
        rw [e]; exact hrok) (kP.mono hc.size))
      have HEQ : Hid (({ d.spentD zs.length with R := zs, nw := true, left := spendL d.left zs.length } : DSt) = { d with R := zs, nw := true, left := spendL d.left zs.length }) := by
        show _ = _
        unfold DSt.spentD
        rw [hdn, Bool.not_eq_true _ |>.mp hs]; rfl
      have HCL := Lib.hid (fun (w' : World) (h' : Chg g w w') => clone_any (.slice p zs.length c) zs w' (hat.chg h' hg0).row (by omega))
      rw [← HWE.out]
      clear hb k1 k2 k5 k7 kP hr hrok hat
      go_enter Try.func35, Try.ntmps35
      go_wp2_with fail
      refine (HREF.out w (Below.refl _ _)).mono ?_
      rintro y w2 ⟨rfl, rfl⟩
      go_wp2_with fail
      refine HSP.out.mono ?_
      rintro y w3 ⟨rfl, hc3, hb3⟩
      have C3 := Lib.hid hc3
      have HB3 := Lib.hid hb3
      clear hc3 hb3
      go_wp2_with fail
      refine (HCL.out w3 C3.out).mono ?_
      rintro y w4 ⟨v4, rfl, ho4, hb4⟩
      obtain ⟨p4, c4, rfl⟩ := ho4.form
      have hF := HFIN.out w3 w4 _ C3.out HB3.out hb4 ho4
      rw [HEQ.out] at hF
      have F4 := Lib.hid hF
      have hb5 := HB3.out.below hb4 HB3.out.lt
      have e2 : w4.cell? ⟨g, 2, none⟩ = some vr := hb5.cell 2
      have e3 : w4.cell? ⟨g, 3, none⟩ = some (.bool (d.spentD zs.length).nw) := hb5.cell 3
      have f2 := hb5.free 2
      have f3 := hb5.free 3
      have hlt4 := hb5.lt
      clear ho4 hb4 hF hb5
      go_wp2_with fail
      go_ret
      exact ⟨rfl, by rw [HRD.out]; exact F4.out.1, (BelowP.chg C3.out k6 hgl HPg.out).trans F4.out.2⟩
theorem renew_any (w : World) (base g : Nat) (d : DSt) (vb : Value) (zs : List Int) (h : Dk w base g d) (ho : Oct zs) (hrow : ∃ g0, g0 ≠ g ∧ RowAt .u8 w g0 vb zs) :
    Calls Try.prog 35 #[.pointer (some ⟨g, 0, none⟩), vb] w fun x w' => x = .returned (.int .i64 (d.renewE zs.length)) ∧ Dk w' base g (d.renewD zs) ∧ Below base w w' :=
  (renew_anyP none_ w base g d vb zs h.dkp ho hrow).mono fun _ _ ⟨h1, h2, h3⟩ => ⟨h1, h2.dk, h3.1⟩
theorem Own.trunc {k : IntKind} {w : World} {base n c : Nat} {e : TypeId} {p : Option Addr} {zs : List Int} (h : Own k w base e (.slice p n c) zs) (m : Nat) (hm : m ≤ n) : Own k w base e (.slice p m c) (zs.take m) := by
  obtain ⟨hl, h⟩ := h
  rcases h with ⟨e1, h0⟩ | ⟨g, cap, cur, e1, hb, hg, hn, hx, hs, ht⟩
  · cases e1
    have hm0 : m = 0 := by omega
    subst hm0
    exact ⟨by simp, .inl ⟨rfl, by simp⟩⟩
  · cases e1
    have hlen : (zs.take m).length = m := by rw [List.length_take]; exact Nat.min_eq_left hm
    refine ⟨by rw [List.length_map, Nat.mul_one], .inr ⟨g, c, cur, by rw [hlen], hb, hg, by omega, hx, hs, ?_⟩⟩
    rw [hlen, Nat.mul_one, List.map_take, ← ht, List.take_take]
    congr 1
    omega
set_option linter.unusedSimpArgs false in
set_option maxHeartbeats 4000000 in
set_option maxRecDepth 100000 in
theorem crash_anyP (P : Nat → Prop) (w : World) (base g : Nat) (d : DSt) (k t : Int) (bt : 0 ≤ t ∧ t < 256) (h : Dkp P w base g d) (hf : d.Fits) :
    Calls Try.prog 18 #[.pointer (some ⟨g, 0, none⟩), .int .i64 k, .int .u8 t] w fun x w' => x = .returned (.tuple #[]) ∧ Dkp P w' base g (d.crashD k t) ∧ BelowP P base w w' := by
  obtain ⟨vs, vr, hb, k1, k2, k3, k4, k5, k6, k7, kP⟩ := h
  have HPg := Lib.hid kP.1
  have c4 : w.cell? ⟨g, 4, none⟩ = some (.bool d.dn) := hb.cell 4
  have c5 : w.cell? ⟨g, 5, none⟩ = some (.int .i64 d.left) := hb.cell 5
  have f4 := hb.free 4
  have f5 := hb.free 5
  have hlt := hb.lt
  have HU : Hid (Blk ((w.setCell ⟨g, 4, none⟩ (.bool true)).setCell ⟨g, 5, none⟩ (.int .i64 (-1))) g (cellsD { d with dn := true, left := -1 } vs vr) 65) := (hb.set 4 _).set 5 _
  have HC : Hid (Chg g w ((w.setCell ⟨g, 4, none⟩ (.bool true)).setCell ⟨g, 5, none⟩ (.int .i64 (-1)))) := ((Chg.refl g w).set 4 _).set 5 _
  have hgl : base ≤ w.heap.size := Nat.le_of_lt (Nat.lt_of_le_of_lt k6 hlt)
  have hok1 : ({ d with dn := true, left := -1 } : DSt).giveD.Ok := give_ok (d := { d with dn := true, left := -1 }) ⟨k7.1, k7.2.1, k7.2.2.1, k7.2.2.2.1, k7.2.2.2.2.1, k7.2.2.2.2.2.1, by show (-9223372036854775808 : Int) ≤ -1; decide, by show (-1 : Int) ≤ _; decide, k7.2.2.2.2.2.2.2.2⟩ hf
  have HG := Lib.hid (fun (w1 : World) (hc1 : Chg g w w1) (hb1 : Blk w1 g (cellsD ({ d with dn := true, left := -1 } : DSt).giveD vs (if d.nw = true then .slice none 0 0 else vr)) 65) => give_dk (d := { d with dn := true, left := -1 }) hc1 hb1 k1 k2 k3 k4 k5 k6 hok1 kP)
  have HCD : Hid (d.crashD k t = { ({ d with dn := true, left := -1 } : DSt).giveD with R := tornL ({ d with dn := true, left := -1 } : DSt).giveD.R (keepN k ({ d with dn := true, left := -1 } : DSt).giveD.R.length) t }) := by
    show _ = _
    unfold DSt.crashD DSt.giveD
    split <;> rfl
  have hcok := crash_ok k7 hf k bt
  rw [HCD.out] at hcok
  have HCOK := Lib.hid hcok
  have HGV := Lib.hid (give_any _ g { d with dn := true, left := -1 } vs vr HU.out)
  rw [HCD.out]
  clear hb k1 k2 k5 k7 kP hok1 hcok
  generalize ({ d with dn := true, left := -1 } : DSt).giveD = D at *
  go_enter Try.func18, Try.ntmps18
  go_wp2_with fail
  refine HGV.out.mono ?_
  rintro y w1 ⟨rfl, hc1, hb1⟩
  have C1 := Lib.hid (HC.out.trans hc1)
  have hdk := HG.out w1 C1.out hb1
  clear hc1 hb1 HG HGV
  obtain ⟨us, ur, hb, k1, k2, k3, k4, k5, _, k7, kP⟩ := hdk
  have KP := Lib.hid kP
  clear kP
  obtain ⟨pr, cr, rfl⟩ := k2.form
  obtain ⟨N, hNd⟩ : ∃ N, N = keepN k D.R.length := ⟨_, rfl⟩
  have hNl : N ≤ D.R.length := by rw [hNd]; exact keepN_le _ _
  obtain ⟨kk, hk0⟩ : ∃ kk : Int, (if k < 0 then (0 : Int) else k) = kk := ⟨_, rfl⟩
  have hNm : (if (D.R.length : Int) < kk then (D.R.length : Int) else kk) = (N : Int) := by
    rw [hNd, ← hk0]
    unfold keepN
    split <;> split <;> omega
  have HND := Lib.hid hNd
  have e2 : w1.cell? ⟨g, 2, none⟩ = some (.slice pr D.R.length cr) := hb.cell 2
  have f2 := hb.free 2
  have hlt1 := hb.lt
  have K2 := Lib.hid (k2.trunc N hNl)
  have hRc : D.R.length ≤ cr := by obtain ⟨_, _, e, h2, _⟩ := k2.row; cases e; exact h2
  have hNc : (N : Int) ≤ (cr : Int) := by omega
  have HD1 := Lib.hid hb
  have HROCT := Lib.hid k7.2.2.1
  have K1 := Lib.hid k1
  have K5 := Lib.hid k5
  have hRl : D.R.length ≤ 4194304 := k7.2.2.2.2.1
  have hsz1 : w.heap.size ≤ w1.heap.size := C1.out.size
  have hor : N = 0 ∨ 0 < N ∧ ∃ gr, pr = some ⟨gr, 0, none⟩ ∧ base ≤ gr ∧ ¬ P gr := by
    by_cases h0 : N = 0
    · exact .inl h0
    · obtain ⟨gr, h, hb', _⟩ := k2.at_ (by omega)
      exact .inr ⟨by omega, gr, h, hb', KP.out.2.2.1 gr (by rw [h]; rfl)⟩
  clear hb k1 k2 k5 k7 hNd
  have k4N : (Value.slice pr N cr).ownBlock ≠ some g := by
    intro e
    apply k4
    cases pr <;> exact e
  have K5N : ∀ b, us.ownBlock = some b → (Value.slice pr N cr).ownBlock ≠ some b := by
    intro b hb e
    apply K5.out b hb
    cases pr <;> exact e
  have hPN : ∀ w', Chg g w1 w' → PFar P w' g us (.slice pr N cr) := by
    intro w' hc
    refine ⟨KP.out.1, KP.out.2.1, ?_, fun b hb => Nat.lt_of_lt_of_le (KP.out.2.2.2 b hb) hc.size⟩
    intro b e
    apply KP.out.2.2.1 b
    cases pr <;> exact e
  have HPN := Lib.hid hPN
  clear hPN
  have HT0 : Hid (∀ w', Chg g w1 w' → Blk w' g (cellsD D us (.slice pr N cr)) 65 → N = 0 → Dkp P w' base g { D with R := tornL D.R (keepN k D.R.length) t }) := by
    intro w' hc hb' h0
    have hR : tornL D.R (keepN k D.R.length) t = D.R.take N := by rw [← HND.out, h0]; rfl
    refine ⟨us, .slice pr N cr, hb', K1.out.chgV hc k3, by show Own _ _ _ _ _ (tornL D.R (keepN k D.R.length) t); rw [hR]; exact K2.out.chgV hc k4N, k3, k4N, K5N, k6, HCOK.out, HPN.out w' hc⟩
  have HTN : Hid (∀ w' gr, Chg g w1 w' → Blk w' g (cellsD D us (.slice pr N cr)) 65 → pr = some ⟨gr, 0, none⟩ → 0 < N → Dkp P (w'.setCell ⟨gr, N - 1, none⟩ (.int .u8 (xorI (D.R.getD (N - 1) 0) t))) base g { D with R := tornL D.R (keepN k D.R.length) t }) := by
    intro w' gr hc hb' hp h0
    subst hp
    have hR : tornL D.R (keepN k D.R.length) t = (D.R.take N).set (N - 1) (xorI (D.R.getD (N - 1) 0) t) := by rw [← HND.out]; unfold tornL; rw [if_neg (by omega)]
    have hne : gr ≠ g := fun e => k4 (by rw [e]; rfl)
    have hc2 : Chg gr w' (w'.setCell ⟨gr, N - 1, none⟩ (.int .u8 (xorI (D.R.getD (N - 1) 0) t))) := (Chg.refl gr w').set (N - 1) _
    refine ⟨us, .slice (some ⟨gr, 0, none⟩) N cr, hb'.chg hc2 (Ne.symm hne), (K1.out.chgV hc k3).chgV hc2 (fun e => K5.out gr e rfl), by show Own _ _ _ _ _ (tornL D.R (keepN k D.R.length) t); rw [hR]; exact (K2.out.chgV hc k4N).set (N - 1) _, k3, k4N, K5N, k6, HCOK.out, (HPN.out w' hc).mono hc2.size⟩
  have HCELL : Hid (∀ w' gr, Chg g w1 w' → pr = some ⟨gr, 0, none⟩ → 0 < N → w'.cell? ⟨gr, N - 1, none⟩ = some (.int .u8 (D.R.getD (N - 1) 0)) ∧ w'.frozen? ⟨gr, N - 1, none⟩ = false) := by
    intro w' gr hc hp h0
    subst hp
    have h := (K2.out.chgV hc k4N).cell (N - 1) (by omega)
    rw [getD_take (by omega)] at h
    exact h
  have hxx := xor8_I (D.R.getD (N - 1) 0) t (HROCT.out.getD _) bt
  generalize D.R.getD (N - 1) 0 = xN at *
  rcases hor with hN0 | ⟨hN0, gr, rfl, hgr, hgP⟩
  all_goals
    go_wp2_with fail
    refine wp_region_held_drew (S := fun _ => True) (by kernel_rfl) trivial (fun _ => ?_)
    refine wpAnyH_take (i := 0) (v := ?_) rfl (by kernel_rfl) (by kernel_rfl) (by kernel_rfl) (fun _ _ _ h => h) (Or.inl ⟨by kernel_rfl, ?_⟩) (by first | trivial | assumption) ?_
    rotate_left
    · intro w hSw
      try dsimp only at hSw
      first | (go_simp; done) | (go_simp; with_reducible rfl)
    try simp only [Act.put, List.getElem_toArray, List.getElem_cons_succ, List.getElem_cons_zero, List.setIfInBounds_toArray, List.set_cons_zero, List.set_cons_succ]
    refine wpAnyH_take (i := 1) (v := ?_) rfl (by kernel_rfl) (by kernel_rfl) (by kernel_rfl) (fun _ _ _ h => h) (Or.inl ⟨by kernel_rfl, ?_⟩) (by first | trivial | assumption) ?_
    rotate_left
    · intro w hSw
      try dsimp only at hSw
      first | (go_simp; done) | (go_simp; with_reducible rfl)
    try simp only [Act.put, List.getElem_toArray, List.getElem_cons_succ, List.getElem_cons_zero, List.setIfInBounds_toArray, List.set_cons_zero, List.set_cons_succ]
    refine wpAnyH_take (i := 2) (v := ?_) rfl (by kernel_rfl) (by kernel_rfl) (by kernel_rfl) (fun _ _ _ h => h) (Or.inl ⟨by kernel_rfl, ?_⟩) (by first | trivial | assumption) ?_
    rotate_left
    · intro w hSw
      try dsimp only at hSw
      first | (go_simp; done) | (go_simp; with_reducible rfl)
    try simp only [Act.put, List.getElem_toArray, List.getElem_cons_succ, List.getElem_cons_zero, List.setIfInBounds_toArray, List.set_cons_zero, List.set_cons_succ]
    refine wpAnyH_take (i := 3) (v := ?_) rfl (by kernel_rfl) (by kernel_rfl) (by kernel_rfl) (fun _ _ _ h => h) (Or.inl ⟨by kernel_rfl, ?_⟩) (by first | trivial | assumption) ?_
    rotate_left
    · intro w hSw
      try dsimp only at hSw
      first | (go_simp; done) | (go_simp; with_reducible rfl)
    try simp only [Act.put, List.getElem_toArray, List.getElem_cons_succ, List.getElem_cons_zero, List.setIfInBounds_toArray, List.set_cons_zero, List.set_cons_succ]
    refine wpAnyH_take (i := 5) (v := ?_) rfl (by kernel_rfl) (by kernel_rfl) (by kernel_rfl) (fun _ _ _ h => h) (Or.inl ⟨by kernel_rfl, ?_⟩) (by first | trivial | assumption) ?_
    rotate_left
    · intro w hSw
      try dsimp only at hSw
      first | (go_simp; done) | (go_simp; with_reducible rfl)
    try simp only [Act.put, List.getElem_toArray, List.getElem_cons_succ, List.getElem_cons_zero, List.setIfInBounds_toArray, List.set_cons_zero, List.set_cons_succ]
    refine wpAnyH_take (i := 6) (v := ?_) rfl (by kernel_rfl) (by kernel_rfl) (by kernel_rfl) (fun _ _ _ h => h) (Or.inl ⟨by kernel_rfl, ?_⟩) (by first | trivial | assumption) ?_
    rotate_left
    · intro w hSw
      try dsimp only at hSw
      first | (go_simp; done) | (go_simp; with_reducible rfl)
    try simp only [Act.put, List.getElem_toArray, List.getElem_cons_succ, List.getElem_cons_zero, List.setIfInBounds_toArray, List.set_cons_zero, List.set_cons_succ]
    refine wpAnyH_take (i := 7) (v := ?_) rfl (by kernel_rfl) (by kernel_rfl) (by kernel_rfl) (fun _ _ _ h => h) (Or.inl ⟨by kernel_rfl, ?_⟩) (by first | trivial | assumption) ?_
    rotate_left
    · intro w hSw
      try dsimp only at hSw
      first | (go_simp; done) | (go_simp; with_reducible rfl)
    try simp only [Act.put, List.getElem_toArray, List.getElem_cons_succ, List.getElem_cons_zero, List.setIfInBounds_toArray, List.set_cons_zero, List.set_cons_succ]
    refine wpAnyH_take (i := 8) (v := ?_) rfl (by kernel_rfl) (by kernel_rfl) (by kernel_rfl) (fun _ _ _ h => h) (Or.inl ⟨by kernel_rfl, ?_⟩) (by first | trivial | assumption) ?_
    rotate_left
    · intro w hSw
      try dsimp only at hSw
      first | (go_simp; done) | (go_simp; with_reducible rfl)
    try simp only [Act.put, List.getElem_toArray, List.getElem_cons_succ, List.getElem_cons_zero, List.setIfInBounds_toArray, List.set_cons_zero, List.set_cons_succ]
    refine wpAnyH_take (i := 9) (v := ?_) rfl (by kernel_rfl) (by kernel_rfl) (by kernel_rfl) (fun _ _ _ h => h) (Or.inl ⟨by kernel_rfl, ?_⟩) (by first | trivial | assumption) ?_
    rotate_left
    · intro w hSw
      try dsimp only at hSw
      first | (go_simp; done) | (go_simp; with_reducible rfl)
    try simp only [Act.put, List.getElem_toArray, List.getElem_cons_succ, List.getElem_cons_zero, List.setIfInBounds_toArray, List.set_cons_zero, List.set_cons_succ]
    have e3 : w1.drew.cell? ⟨g, 2, none⟩ = some (.slice _ D.R.length cr) := e2
    refine wpAnyH_ready (rs := [4, 10]) (by kernel_rfl) (by simp) ?_
    refine AllReadyH.cons rfl (fun K hK => ?_) (AllReadyH.cons rfl (fun K hK => ?_) AllReadyH.nil)
    · skip
      go_simp
      refine hK.out _ _ trivial (fun hS => ?_)
      clear hK K
      try simp only [Act.put, List.getElem_toArray, List.getElem_cons_succ, List.getElem_cons_zero, List.setIfInBounds_toArray, List.set_cons_zero, List.set_cons_succ]
      refine wpAnyH_ready (rs := [10]) (by kernel_rfl) (by simp) ?_
      refine AllReadyH.cons rfl (fun K hK => ?_) AllReadyH.nil
      go_simp
      refine hK.out _ _ trivial (fun hS => ?_)
      clear hK K
      try simp only [Act.put, List.getElem_toArray, List.getElem_cons_succ, List.getElem_cons_zero, List.setIfInBounds_toArray, List.set_cons_zero, List.set_cons_succ]
      refine wpAnyH_take (i := 11) (v := ?_) rfl (by kernel_rfl) (by kernel_rfl) (by kernel_rfl) (fun _ _ _ h => h) (Or.inl ⟨by kernel_rfl, ?_⟩) (by first | trivial | assumption) ?_
      rotate_left
      · intro w hSw
        try dsimp only at hSw
        first | (go_simp; done) | (go_simp; with_reducible rfl)
      try simp only [Act.put, List.getElem_toArray, List.getElem_cons_succ, List.getElem_cons_zero, List.setIfInBounds_toArray, List.set_cons_zero, List.set_cons_succ]
      refine wpAnyH_take (i := 12) (v := ?_) rfl (by kernel_rfl) (by kernel_rfl) (by kernel_rfl) (fun _ _ _ h => h) (Or.inl ⟨by kernel_rfl, ?_⟩) (by first | trivial | assumption) ?_
      rotate_left
      · intro w hSw
        try dsimp only at hSw
        first | (go_simp; done) | (go_simp; with_reducible rfl)
      try simp only [Act.put, List.getElem_toArray, List.getElem_cons_succ, List.getElem_cons_zero, List.setIfInBounds_toArray, List.set_cons_zero, List.set_cons_succ]
      refine wpAnyH_take (i := 13) (v := ?_) rfl (by kernel_rfl) (by kernel_rfl) (by kernel_rfl) (fun _ _ _ h => h) (Or.inl ⟨by kernel_rfl, ?_⟩) (by first | trivial | assumption) ?_
      rotate_left
      · intro w hSw
        try dsimp only at hSw
        first | (go_simp; done) | (go_simp; with_reducible rfl)
      try simp only [Act.put, List.getElem_toArray, List.getElem_cons_succ, List.getElem_cons_zero, List.setIfInBounds_toArray, List.set_cons_zero, List.set_cons_succ]
      refine wpAnyH_take (i := 14) (v := ?_) rfl (by kernel_rfl) (by kernel_rfl) (by kernel_rfl) (fun _ _ _ h => h) (Or.inl ⟨by kernel_rfl, ?_⟩) (by first | trivial | assumption) ?_
      rotate_left
      · intro w hSw
        try dsimp only at hSw
        first | (go_simp; done) | (go_simp; with_reducible rfl)
      try simp only [Act.put, List.getElem_toArray, List.getElem_cons_succ, List.getElem_cons_zero, List.setIfInBounds_toArray, List.set_cons_zero, List.set_cons_succ]
      refine wpAnyH_take (i := 15) (v := ?_) rfl (by kernel_rfl) (by kernel_rfl) (by kernel_rfl) (fun _ _ _ h => h) (Or.inl ⟨by kernel_rfl, ?_⟩) (by first | trivial | assumption) ?_
      rotate_left
      · intro w hSw
        try dsimp only at hSw
        first | (go_simp; done) | (go_simp; with_reducible rfl)
      try simp only [Act.put, List.getElem_toArray, List.getElem_cons_succ, List.getElem_cons_zero, List.setIfInBounds_toArray, List.set_cons_zero, List.set_cons_succ]
      refine wpAnyH_ready (rs := [16]) (by kernel_rfl) (by simp) ?_
      refine AllReadyH.cons rfl (fun K hK => ?_) AllReadyH.nil
      go_simp
      refine hK.out _ _ trivial (fun hS => ?_)
      clear hK K
      try simp only [Act.put, List.getElem_toArray, List.getElem_cons_succ, List.getElem_cons_zero, List.setIfInBounds_toArray, List.set_cons_zero, List.set_cons_succ]
      refine wpAnyH_done (by kernel_rfl) ?_ _
      first
      | (have hz : N = 0 := hN0
         have b2 := HD1.out.set 2 (.slice pr 0 cr)
         have c2' : (w1.setCell ⟨g, 2, none⟩ (.slice pr 0 cr)).drew.cell? ⟨g, 2, none⟩ = some (.slice pr 0 cr) := b2.cell 2
         have hcg : Chg g w1 (w1.setCell ⟨g, 2, none⟩ (.slice pr 0 cr)).drew := ((Chg.refl g w1).set 2 _).drew
         have HB2 : Hid (Blk (w1.setCell ⟨g, 2, none⟩ (.slice pr 0 cr)).drew g (cellsD D us (.slice pr N cr)) 65) := (by show Blk _ _ _ _; rw [hz]; exact b2)
         have HCG := Lib.hid hcg
         clear b2 hcg hz
         go_wp2_with fail
         go_end0
         exact ⟨rfl, HT0.out _ HCG.out HB2.out hN0, BelowP.chg (C1.out.trans HCG.out) k6 hgl HPg.out⟩)
      | (have hp : 0 < N := hN0
         have b2 := HD1.out.set 2 (.slice (some ⟨gr, 0, none⟩) N cr)
         have c2' : (w1.setCell ⟨g, 2, none⟩ (.slice (some ⟨gr, 0, none⟩) N cr)).drew.cell? ⟨g, 2, none⟩ = some (.slice (some ⟨gr, 0, none⟩) N cr) := b2.cell 2
         have hcg : Chg g w1 (w1.setCell ⟨g, 2, none⟩ (.slice (some ⟨gr, 0, none⟩) N cr)).drew := ((Chg.refl g w1).set 2 _).drew
         obtain ⟨hcell, hfree⟩ := HCELL.out _ gr hcg rfl hp
         have HF := Lib.hid (HTN.out _ gr hcg b2 rfl hp)
         have HCG := Lib.hid hcg
         have hcp : (0 : Int) < (N : Int) := by omega
         have hcs : ((N : Int) - 1).toNat = N - 1 := by omega
         have hc1 : (0 : Int) ≤ (N : Int) - 1 := by omega
         have hc2 : (N : Int) - 1 < (N : Int) := by omega
         clear b2 hcg
         go_wp2_with fail
         go_end0
         exact ⟨rfl, HF.out, (BelowP.chg (C1.out.trans HCG.out) k6 hgl HPg.out).setCell (p := ⟨gr, N - 1, none⟩) hgr hgP _⟩)
    · skip
      go_simp
      refine hK.out _ _ trivial (fun hS => ?_)
      clear hK K
      try simp only [Act.put, List.getElem_toArray, List.getElem_cons_succ, List.getElem_cons_zero, List.setIfInBounds_toArray, List.set_cons_zero, List.set_cons_succ]
      refine wpAnyH_take (i := 11) (v := ?_) rfl (by kernel_rfl) (by kernel_rfl) (by kernel_rfl) (fun _ _ _ h => h) (Or.inl ⟨by kernel_rfl, ?_⟩) (by first | trivial | assumption) ?_
      rotate_left
      · intro w hSw
        try dsimp only at hSw
        first | (go_simp; done) | (go_simp; with_reducible rfl)
      try simp only [Act.put, List.getElem_toArray, List.getElem_cons_succ, List.getElem_cons_zero, List.setIfInBounds_toArray, List.set_cons_zero, List.set_cons_succ]
      refine wpAnyH_take (i := 12) (v := ?_) rfl (by kernel_rfl) (by kernel_rfl) (by kernel_rfl) (fun _ _ _ h => h) (Or.inl ⟨by kernel_rfl, ?_⟩) (by first | trivial | assumption) ?_
      rotate_left
      · intro w hSw
        try dsimp only at hSw
        first | (go_simp; done) | (go_simp; with_reducible rfl)
      try simp only [Act.put, List.getElem_toArray, List.getElem_cons_succ, List.getElem_cons_zero, List.setIfInBounds_toArray, List.set_cons_zero, List.set_cons_succ]
      refine wpAnyH_ready (rs := [4]) (by kernel_rfl) (by simp) ?_
      refine AllReadyH.cons rfl (fun K hK => ?_) AllReadyH.nil
      go_simp
      refine hK.out _ _ trivial (fun hS => ?_)
      clear hK K
      try simp only [Act.put, List.getElem_toArray, List.getElem_cons_succ, List.getElem_cons_zero, List.setIfInBounds_toArray, List.set_cons_zero, List.set_cons_succ]
      refine wpAnyH_take (i := 13) (v := ?_) rfl (by kernel_rfl) (by kernel_rfl) (by kernel_rfl) (fun _ _ _ h => h) (Or.inl ⟨by kernel_rfl, ?_⟩) (by first | trivial | assumption) ?_
      rotate_left
      · intro w hSw
        try dsimp only at hSw
        first | (go_simp; done) | (go_simp; with_reducible rfl)
      try simp only [Act.put, List.getElem_toArray, List.getElem_cons_succ, List.getElem_cons_zero, List.setIfInBounds_toArray, List.set_cons_zero, List.set_cons_succ]
      refine wpAnyH_take (i := 14) (v := ?_) rfl (by kernel_rfl) (by kernel_rfl) (by kernel_rfl) (fun _ _ _ h => h) (Or.inl ⟨by kernel_rfl, ?_⟩) (by first | trivial | assumption) ?_
      rotate_left
      · intro w hSw
        try dsimp only at hSw
        first | (go_simp; done) | (go_simp; with_reducible rfl)
      try simp only [Act.put, List.getElem_toArray, List.getElem_cons_succ, List.getElem_cons_zero, List.setIfInBounds_toArray, List.set_cons_zero, List.set_cons_succ]
      refine wpAnyH_take (i := 15) (v := ?_) rfl (by kernel_rfl) (by kernel_rfl) (by kernel_rfl) (fun _ _ _ h => h) (Or.inl ⟨by kernel_rfl, ?_⟩) (by first | trivial | assumption) ?_
      rotate_left
      · intro w hSw
        try dsimp only at hSw
        first | (go_simp; done) | (go_simp; with_reducible rfl)
      try simp only [Act.put, List.getElem_toArray, List.getElem_cons_succ, List.getElem_cons_zero, List.setIfInBounds_toArray, List.set_cons_zero, List.set_cons_succ]
      refine wpAnyH_ready (rs := [16]) (by kernel_rfl) (by simp) ?_
      refine AllReadyH.cons rfl (fun K hK => ?_) AllReadyH.nil
      go_simp
      refine hK.out _ _ trivial (fun hS => ?_)
      clear hK K
      try simp only [Act.put, List.getElem_toArray, List.getElem_cons_succ, List.getElem_cons_zero, List.setIfInBounds_toArray, List.set_cons_zero, List.set_cons_succ]
      refine wpAnyH_done (by kernel_rfl) ?_ _
      first
      | (have hz : N = 0 := hN0
         have b2 := HD1.out.set 2 (.slice pr 0 cr)
         have c2' : (w1.setCell ⟨g, 2, none⟩ (.slice pr 0 cr)).drew.cell? ⟨g, 2, none⟩ = some (.slice pr 0 cr) := b2.cell 2
         have hcg : Chg g w1 (w1.setCell ⟨g, 2, none⟩ (.slice pr 0 cr)).drew := ((Chg.refl g w1).set 2 _).drew
         have HB2 : Hid (Blk (w1.setCell ⟨g, 2, none⟩ (.slice pr 0 cr)).drew g (cellsD D us (.slice pr N cr)) 65) := (by show Blk _ _ _ _; rw [hz]; exact b2)
         have HCG := Lib.hid hcg
         clear b2 hcg hz
         go_wp2_with fail
         go_end0
         exact ⟨rfl, HT0.out _ HCG.out HB2.out hN0, BelowP.chg (C1.out.trans HCG.out) k6 hgl HPg.out⟩)
      | (have hp : 0 < N := hN0
         have b2 := HD1.out.set 2 (.slice (some ⟨gr, 0, none⟩) N cr)
         have c2' : (w1.setCell ⟨g, 2, none⟩ (.slice (some ⟨gr, 0, none⟩) N cr)).drew.cell? ⟨g, 2, none⟩ = some (.slice (some ⟨gr, 0, none⟩) N cr) := b2.cell 2
         have hcg : Chg g w1 (w1.setCell ⟨g, 2, none⟩ (.slice (some ⟨gr, 0, none⟩) N cr)).drew := ((Chg.refl g w1).set 2 _).drew
         obtain ⟨hcell, hfree⟩ := HCELL.out _ gr hcg rfl hp
         have HF := Lib.hid (HTN.out _ gr hcg b2 rfl hp)
         have HCG := Lib.hid hcg
         have hcp : (0 : Int) < (N : Int) := by omega
         have hcs : ((N : Int) - 1).toNat = N - 1 := by omega
         have hc1 : (0 : Int) ≤ (N : Int) - 1 := by omega
         have hc2 : (N : Int) - 1 < (N : Int) := by omega
         clear b2 hcg
         go_wp2_with fail
         go_end0
         exact ⟨rfl, HF.out, (BelowP.chg (C1.out.trans HCG.out) k6 hgl HPg.out).setCell (p := ⟨gr, N - 1, none⟩) hgr hgP _⟩)
theorem crash_any (w : World) (base g : Nat) (d : DSt) (k t : Int) (bt : 0 ≤ t ∧ t < 256) (h : Dk w base g d) (hf : d.Fits) :
    Calls Try.prog 18 #[.pointer (some ⟨g, 0, none⟩), .int .i64 k, .int .u8 t] w fun x w' => x = .returned (.tuple #[]) ∧ Dk w' base g (d.crashD k t) ∧ Below base w w' :=
  (crash_anyP none_ w base g d k t bt h.dkp hf).mono fun _ _ ⟨h1, h2, h3⟩ => ⟨h1, h2.dk, h3.1⟩
end Go.Proofs.Ytjbhcdmeeakdcaa
