/- heap.Push, heap.Remove by contract. -/
import Derived.Test.YtpmiekheiddihaaClkPop
namespace Go.Proofs.Ytpmiekheiddihaa
open Go.RowKit
theorem last_of {hs : List Du} {m : Nat} (h : hs.length = m + 1) : hs = hs.take m ++ [HU hs m] := by
  have h1 : hs.drop m = [HU hs m] := by
    rw [HU_at (by omega), List.drop_eq_getElem_cons (by omega), List.drop_of_length_le (by omega)]
  rw [← h1, List.take_append_drop]
set_option linter.unusedSimpArgs false in
set_option maxHeartbeats 4000000 in
set_option maxRecDepth 100000 in
theorem hpush_any (Q : Nat → Prop) (w : World) (gc : Nat) (now sets : Int) (mv : Value) (p : Option Addr) (n c : Nat) (hs : List Du) (d : Du) (z : Int) (h : ClX Q w gc now sets mv p n c hs) (ho : HOk hs n) (hd : Blk w d.b (d.cells z) 65) (hQd : Q d.b) (hne : ∀ e ∈ hs, e.b ≠ d.b) (hno : (Value.slice p n c).ownBlock ≠ some d.b) (hQ : ∀ x, w.heap.size ≤ x → Q x) (hn : n ≤ 100000) :
    Calls Try.prog 25 #[.iface 67 (.pointer (some ⟨gc, 2, none⟩)), .iface 61 (.pointer (some ⟨d.b, 0, none⟩))] w fun e w' => e = .returned (.tuple #[]) ∧ ∃ p' c' hs', ClX Q w' gc now sets mv p' (n + 1) c' hs' ∧ HOk hs' (n + 1) ∧ hs'.Perm (hs ++ [d]) ∧ ChgP (fun b => Q b ∨ b = gc) w w' := by
  have HN : Hid (n ≤ 100000 ∧ hs.length = n) := Lib.hid ⟨hn, h.hp.len⟩
  have HO := Lib.hid ho
  have HPU := Lib.hid (dpush_any Q w gc now sets mv p n c hs d z h hd hQd hne hno hQ hn)
  have hm := m_push ⟨gc, 2, none⟩ w
  clear h hd hQd hne hno hQ hn ho
  go_enter Try.func25, Try.ntmps25
  go_wp2_with fail
  refine HPU.out.mono ?_
  rintro y9 w1 ⟨rfl, p1, c1, h1, hc1⟩
  have HC := Lib.hid h1
  have HG := Lib.hid hc1
  have k2 : w1.cell? ⟨gc, 2, none⟩ = some (.slice p1 (n + 1) c1) := h1.blk.cell 2
  have hm1 := m_len ⟨gc, 2, none⟩ w1 p1 (n + 1) c1 k2
  have e1 : wrap64 ((((n + 1 : Nat) : Int)) - 1) = (n : Int) := by rw [IntWalk.wrap64_in _ (by have := HN.out; omega)]; omega
  have e2 : wrap64 ((n : Int) + 1 - 1) = (n : Int) := by rw [IntWalk.wrap64_in _ (by have := HN.out; omega)]; omega
  have e3 : wrap64 (n : Int) = (n : Int) := IntWalk.wrap64_in _ (by have := HN.out; omega)
  have HUP := Lib.hid (up_any Q w1 gc now sets mv p1 (n + 1) c1 (hs ++ [d]) (n + 1) n h1 (by have h2 := up_start (d := d) (hs := hs) (by rw [HN.out.2]; exact HO.out); rw [HN.out.2] at h2; exact h2) (Nat.le_refl _) (by have := HN.out; omega) (by omega))
  clear h1 hc1 hm HPU
  go_wp2_with fail
  refine (dlen_any p1 (n + 1) c1 w1).mono ?_
  rintro y9 w2 ⟨rfl, rfl⟩
  go_wp2_with fail
  refine HUP.out.mono ?_
  rintro y9 w3 ⟨rfl, a, ha, hoa, ht, hc⟩
  go_wp2_with fail
  go_end0
  exact ⟨rfl, p1, c1, a, ha, hoa, ht.1, HG.out.trans (hc.imp (fun _ _ h => .inl h))⟩
set_option linter.unusedSimpArgs false in
set_option maxHeartbeats 4000000 in
set_option maxRecDepth 100000 in
theorem hremove_any (Q : Nat → Prop) (w : World) (gc : Nat) (now sets : Int) (mv : Value) (p : Option Addr) (m c : Nat) (hs : List Du) (i : Nat) (hi : i < hs.length) (h : ClX Q w gc now sets mv p (m + 1) c hs) (ho : HOk hs (m + 1)) (hn : m ≤ 100000) :
    Calls Try.prog 23 #[.iface 67 (.pointer (some ⟨gc, 2, none⟩)), .int .i64 i] w fun e w' => e = .returned (.iface 61 (.pointer (some ⟨hs[i].b, 0, none⟩))) ∧ ∃ a, ClX Q w' gc now sets mv p m c a ∧ HOk a m ∧ (a ++ [hs[i]]).Perm hs ∧ Blk w' hs[i].b (hs[i].cells m) 65 ∧ ChgP (fun b => Q b ∨ b = gc) w w' := by
  have HN : Hid (m ≤ 100000 ∧ hs.length = m + 1) := Lib.hid ⟨hn, h.hp.len⟩
  have hdu : HU hs i = hs[i] := HU_at hi
  generalize hs[i] = du at *
  have HDU := Lib.hid hdu
  have HH := Lib.hid h
  have HO := Lib.hid ho
  have k2 : w.cell? ⟨gc, 2, none⟩ = some (.slice p (m + 1) c) := h.blk.cell 2
  have hm0 := m_len ⟨gc, 2, none⟩ w p (m + 1) c k2
  have e1 : wrap64 ((((m + 1 : Nat) : Int)) - 1) = (m : Int) := by rw [IntWalk.wrap64_in _ (by omega)]; omega
  have e2 : wrap64 ((m : Int) + 1 - 1) = (m : Int) := by rw [IntWalk.wrap64_in _ (by omega)]; omega
  have e3 : wrap64 (m : Int) = (m : Int) := IntWalk.wrap64_in _ (by omega)
  clear h ho hn hdu
  go_enter Try.func23, Try.ntmps23
  go_wp2_with fail
  refine (dlen_any p (m + 1) c w).mono ?_
  rintro y9 w1 ⟨rfl, rfl⟩
  clear k2 hm0
  by_cases him : i = m
  · have e4 : ((m : Int) != (i : Int)) = false := by simp [him]
    have HC := HH
    have HOA : Hid (HOk hs m) := Lib.hid (HO.out.less (by omega))
    have HPE : Hid (hs.Perm hs) := Lib.hid (List.Perm.refl _)
    have HLA : Hid (HU hs m = du) := Lib.hid (by rw [← him]; exact HDU.out)
    have HG : Hid (ChgP (fun b => Q b ∨ b = gc) w1 w1) := Lib.hid (ChgP.refl _ _)
    clear him
    go_upto_region 6 with fail
    clear e4 e1 e2 e3
    have hlst := last_of (m := m) (HC.out.hp.len)
    rw [HLA.out] at hlst
    have hcx := HC.out
    rw [hlst] at hcx
    have hla : (hs.take m).length = m := by rw [List.length_take]; have := HC.out.hp.len; omega
    have HOT : Hid (HOk (hs.take m) m) := Lib.hid (by have h1 := HOA.out; rw [hlst] at h1; exact h1.cut (by rw [hla]; exact Nat.le_refl _))
    have HPT : Hid ((hs.take m ++ [du]).Perm hs) := Lib.hid ((List.Perm.of_eq hlst.symm).trans HPE.out)
    have HPO := Lib.hid (dpop_any Q w1 gc now sets mv p m (m + 1) c (hs.take m) du hcx rfl (by have := HN.out; omega))
    have hm := m_pop ⟨gc, 2, none⟩ w1
    clear hlst hcx hla
    go_wp2_with fail
    refine HPO.out.mono ?_
    rintro y9 w8 ⟨rfl, h8, hb8, hc8⟩
    go_wp2_with fail
    go_ret
    exact ⟨rfl, hs.take m, h8, HOT.out, HPT.out, hb8, HG.out.trans hc8⟩
  · have him2 : i < m := by have := HN.out; omega
    have e4 : ((m : Int) != (i : Int)) = true := bne_iff_ne.2 (by omega)
    have hml : m < hs.length := by have := HN.out; omega
    have HSW := Lib.hid (swap_any w1 p (m + 1) c hs HH.out.hp i m hi hml him2)
    have HDS : Hid (DnI (swapL hs i m hi hml) m i i) := Lib.hid (dn_start HO.out him2)
    have HPS : Hid ((swapL hs i m hi hml).Perm hs) := Lib.hid (swap_perm hi hml him2)
    have HUS : Hid (HU (swapL hs i m hi hml) m = du) := Lib.hid (by rw [HU_swap him2, if_pos rfl]; exact HDU.out)
    have k2 : w1.cell? ⟨gc, 2, none⟩ = some (.slice p (m + 1) c) := HH.out.blk.cell 2
    have hm0 := m_swap ⟨gc, 2, none⟩ w1 p (m + 1) c k2
    clear him
    generalize swapL hs i m hi hml = sw at *
    go_wp2_with fail
    refine HSW.out.mono ?_
    rintro y9 w2 ⟨rfl, hp2, hc2⟩
    have hx2 : ClX Q w2 gc now sets mv p (m + 1) c sw := ⟨hp2, hc2.blk HH.out.blk HH.out.nq, HH.out.nq⟩
    have HG2 := Lib.hid hc2
    have HDW := Lib.hid (down_any Q w2 gc now sets mv p (m + 1) c sw m i hx2 HDS.out (by omega) (by have := HN.out; omega) him2)
    clear hm0 k2 hp2 hc2 hx2 e4 HSW HDS
    go_wp2_with fail
    refine HDW.out.mono ?_
    rintro y9 w3 ⟨mv2, rfl, a3, hx3, ht3, hf3, htl3, hc3⟩
    have HG3 : Hid (ChgP (fun b => Q b ∨ b = gc) w1 w3) := Lib.hid ((HG2.out.trans hc3).imp (fun _ _ h => .inl h))
    have HC3 := Lib.hid hx3
    have HPE3 : Hid (a3.Perm hs) := Lib.hid (htl3.1.trans HPS.out)
    have HLA3 : Hid (HU a3 m = du) := Lib.hid ((htl3.2 m (Nat.le_refl _)).trans HUS.out)
    clear hx3 htl3 hc3 HDW HG2 HPS HUS
    cases mv2
    case true =>
      have HOA := Lib.hid (ht3 rfl)
      have HC := HC3
      have HG := HG3
      have HPE := HPE3
      have HLA := HLA3
      clear ht3 hf3 HC3 HG3 HPE3 HLA3
      go_upto_region 6 with fail
      clear e1 e2 e3
      have hlst := last_of (m := m) (HC.out.hp.len)
      rw [HLA.out] at hlst
      have hcx := HC.out
      rw [hlst] at hcx
      have hla : (a3.take m).length = m := by rw [List.length_take]; have := HC.out.hp.len; omega
      have HOT : Hid (HOk (a3.take m) m) := Lib.hid (by have h1 := HOA.out; rw [hlst] at h1; exact h1.cut (by rw [hla]; exact Nat.le_refl _))
      have HPT : Hid ((a3.take m ++ [du]).Perm hs) := Lib.hid ((List.Perm.of_eq hlst.symm).trans HPE.out)
      have HPO := Lib.hid (dpop_any Q w3 gc now sets mv p m (m + 1) c (a3.take m) du hcx rfl (by have := HN.out; omega))
      have hm := m_pop ⟨gc, 2, none⟩ w3
      clear hlst hcx hla
      go_wp2_with fail
      refine HPO.out.mono ?_
      rintro y9 w8 ⟨rfl, h8, hb8, hc8⟩
      go_wp2_with fail
      go_ret
      exact ⟨rfl, a3.take m, h8, HOT.out, HPT.out, hb8, HG.out.trans hc8⟩
    case false =>
      have HUP := Lib.hid (up_any Q w3 gc now sets mv p (m + 1) c a3 m i HC3.out (hf3 rfl) (by omega) (by have := HN.out; omega) him2)
      clear ht3 hf3
      go_wp2_with fail
      refine HUP.out.mono ?_
      rintro y9 w4 ⟨rfl, a4, hx4, ho4, ht4, hc4⟩
      have HOA := Lib.hid ho4
      have HC := Lib.hid hx4
      have HG : Hid (ChgP (fun b => Q b ∨ b = gc) w1 w4) := Lib.hid (HG3.out.trans (hc4.imp (fun _ _ h => .inl h)))
      have HPE : Hid (a4.Perm hs) := Lib.hid (ht4.1.trans HPE3.out)
      have HLA : Hid (HU a4 m = du) := Lib.hid ((ht4.2 m (Nat.le_refl _)).trans HLA3.out)
      clear hx4 ho4 ht4 hc4 HC3 HG3 HPE3 HLA3 HUP
      go_upto_region 6 with fail
      clear e1 e2 e3
      have hlst := last_of (m := m) (HC.out.hp.len)
      rw [HLA.out] at hlst
      have hcx := HC.out
      rw [hlst] at hcx
      have hla : (a4.take m).length = m := by rw [List.length_take]; have := HC.out.hp.len; omega
      have HOT : Hid (HOk (a4.take m) m) := Lib.hid (by have h1 := HOA.out; rw [hlst] at h1; exact h1.cut (by rw [hla]; exact Nat.le_refl _))
      have HPT : Hid ((a4.take m ++ [du]).Perm hs) := Lib.hid ((List.Perm.of_eq hlst.symm).trans HPE.out)
      have HPO := Lib.hid (dpop_any Q w4 gc now sets mv p m (m + 1) c (a4.take m) du hcx rfl (by have := HN.out; omega))
      have hm := m_pop ⟨gc, 2, none⟩ w4
      clear hlst hcx hla
      go_wp2_with fail
      refine HPO.out.mono ?_
      rintro y9 w8 ⟨rfl, h8, hb8, hc8⟩
      go_wp2_with fail
      go_ret
      exact ⟨rfl, a4.take m, h8, HOT.out, HPT.out, hb8, HG.out.trans hc8⟩
end Go.Proofs.Ytpmiekheiddihaa
