/- (*Clock).Drop, Set by contract. -/
import Derived.Test.YtpmiekheiddihaaClkTake
import Derived.Test.YtpmiekheiddihaaClkPut
namespace Go.Proofs.Ytpmiekheiddihaa
open Go.RowKit Go.Maps
def dropE (ds : List Du) (s : ByteArray) : Int := if dofU ds s = none then 4 else 0
def setE (now : Int) (ds : List Du) (s : ByteArray) (later : Int) : Int := if later < 1 ∨ 1099511627776 - now < later then 1 else if dofU ds s = none ∧ 4096 ≤ ds.length then 3 else 0
/-- What a name that is set leaves. -/
def SetR (now : Int) (k : Nat) (ds : List Du) (s : ByteArray) (later : Int) (k' : Nat) (ds' : List Du) : Prop := (setE now ds s later = 0 → k' = k + 1 ∧ ∃ b, ds' = dropU ds s ++ [⟨b, s, now + later, (k : Int) + 1⟩]) ∧ (setE now ds s later ≠ 0 → k' = k ∧ ds' = ds)
set_option linter.unusedSimpArgs false in
set_option maxHeartbeats 4000000 in
set_option maxRecDepth 100000 in
theorem cdrop_any (P : Nat → Prop) (w : World) (gc : Nat) (now : Int) (k : Nat) (ds : List Du) (s : ByteArray) (h : Ck P w gc now k ds) (hs : s.size ≤ maxLen) (hn : ds.length ≤ 50000) :
    Calls Try.prog 13 #[.pointer (some ⟨gc, 0, none⟩), .string s] w fun e w' => e = .returned (.int .i64 (dropE ds s)) ∧ Ck P w' gc now k (dropU ds s) ∧ ChgP P w w' := by
  obtain ⟨gm, p, c, hs', h⟩ := h
  have k3 : w.cell? ⟨gc, 3, none⟩ = some (.map (some gm)) := h.cl.blk.cell 3
  have hl := h.mp.look hs
  cases hf : dofU ds s with
  | none =>
    have HE : Hid (dropE ds s = 4) := Lib.hid (if_pos hf)
    have HD : Hid (dropU ds s = ds) := Lib.hid (drop_self hf)
    rw [hf] at hl
    unfold ptrU at hl
    have HH := Lib.hid h
    clear h hf hs hn
    go_enter Try.func13, Try.ntmps13
    go_wp2_with fail
    go_ret
    exact ⟨(by rw [HE.out]; rfl), by rw [HD.out]; exact ⟨gm, p, c, hs', HH.out⟩, ChgP.refl _ _⟩
  | some b =>
    have HE : Hid (dropE ds s = 0) := Lib.hid (if_neg (by rw [hf]; exact fun e => nomatch e))
    rw [hf] at hl
    unfold ptrU at hl
    obtain ⟨d, hd, rfl, rfl⟩ := dof_some hf
    have HT := Lib.hid (ctake_any P w gc gm now k p c hs' ds d h hd hn)
    clear h hf hs hn hd
    go_enter Try.func13, Try.ntmps13
    go_wp2_with fail
    refine HT.out.mono ?_
    rintro y w1 ⟨rfl, a, ha, hc⟩
    go_wp2_with fail
    go_ret
    exact ⟨(by rw [HE.out]; rfl), ⟨gm, p, c, a, ha⟩, hc⟩
set_option linter.unusedSimpArgs false in
set_option maxHeartbeats 4000000 in
set_option maxRecDepth 100000 in
theorem cset_any (P : Nat → Prop) (w : World) (gc : Nat) (now : Int) (k : Nat) (ds : List Du) (s : ByteArray) (later : Int) (h : Ck P w gc now k ds) (hnow : 0 ≤ now ∧ now ≤ 1099511627776) (hl0 : -9223372036854775808 ≤ later ∧ later ≤ 9223372036854775807) (hs : s.size ≤ 281474976710656) (hn : ds.length ≤ 50000) (hk : k ≤ 1000000) (hP : ∀ x, w.heap.size ≤ x → P x) :
    Calls Try.prog 11 #[.pointer (some ⟨gc, 0, none⟩), .string s, .int .i64 later] w fun e w' => e = .returned (.int .i64 (setE now ds s later)) ∧ ∃ k' ds', Ck P w' gc now k' ds' ∧ SetR now k ds s later k' ds' ∧ ChgP P w w' := by
  obtain ⟨gm, p, c, hs', h⟩ := h
  have k0 : w.cell? ⟨gc, 0, none⟩ = some (.int .i64 now) := h.cl.blk.cell 0
  have k3 : w.cell? ⟨gc, 3, none⟩ = some (.map (some gm)) := h.cl.blk.cell 3
  have k2 : w.cell? ⟨gc, 2, none⟩ = some (.slice p ds.length c) := h.cl.blk.cell 2
  have e0 : wrap64 (1099511627776 - now) = 1099511627776 - now := IntWalk.wrap64_in _ (by omega)
  have HH := Lib.hid h
  have HP := Lib.hid hP
  have HR : Hid (0 ≤ now ∧ now ≤ 1099511627776 ∧ s.size ≤ 281474976710656 ∧ ds.length ≤ 50000 ∧ k ≤ 1000000) := Lib.hid ⟨hnow.1, hnow.2, hs, hn, hk⟩
  have hl := h.mp.look (s := s) (by unfold maxLen; omega)
  clear h hP hn hk hs
  by_cases h1 : later < 1
  · have HE : Hid (setE now ds s later = 1) := Lib.hid (if_pos (.inl h1))
    clear hnow hl0
    go_enter Try.func11, Try.ntmps11
    go_wp2_with fail
    go_ret
    exact ⟨(by rw [HE.out]; rfl), k, ds, ⟨gm, p, c, hs', HH.out⟩, ⟨(fun e => absurd e (by rw [HE.out]; decide)), fun _ => ⟨rfl, rfl⟩⟩, ChgP.refl _ _⟩
  by_cases h2 : 1099511627776 - now < later
  · have HE : Hid (setE now ds s later = 1) := Lib.hid (if_pos (.inr h2))
    have h1' : (1 : Int) ≤ later := by omega
    clear h1 hnow hl0
    go_enter Try.func11, Try.ntmps11
    go_wp2_with fail
    go_ret
    exact ⟨(by rw [HE.out]; rfl), k, ds, ⟨gm, p, c, hs', HH.out⟩, ⟨(fun e => absurd e (by rw [HE.out]; decide)), fun _ => ⟨rfl, rfl⟩⟩, ChgP.refl _ _⟩
  have HS1 : Hid (setE now ds s later = if dofU ds s = none ∧ 4096 ≤ ds.length then 3 else 0) := Lib.hid (if_neg (by omega))
  have h1' : (1 : Int) ≤ later := by omega
  have h2' : later ≤ 1099511627776 - now := by omega
  have hadd : wrap64 (now + later) = now + later := IntWalk.wrap64_in _ (by omega)
  clear h1 h2 hnow hl0
  cases hf : dofU ds s with
  | none =>
    rw [hf] at hl
    unfold ptrU at hl
    have HNN : Hid (dofU ds s = none) := Lib.hid hf
    by_cases h4 : 4096 ≤ ds.length
    · have HE : Hid (setE now ds s later = 3) := Lib.hid (by rw [HS1.out]; exact if_pos ⟨hf, h4⟩)
      have h4I : (4096 : Int) ≤ (ds.length : Int) := by omega
      clear hf HS1
      generalize ds.length = n at *
      go_enter Try.func11, Try.ntmps11
      go_wp2_with fail
      go_ret
      exact ⟨(by rw [HE.out]; rfl), k, ds, ⟨gm, p, c, hs', HH.out⟩, ⟨(fun e => absurd e (by rw [HE.out]; decide)), fun _ => ⟨rfl, rfl⟩⟩, ChgP.refl _ _⟩
    · have HE : Hid (setE now ds s later = 0) := Lib.hid (by rw [HS1.out]; exact if_neg (fun h => h4 h.2))
      have HDD : Hid (dropU ds s = ds) := Lib.hid (drop_self hf)
      have h4I : (ds.length : Int) < 4096 := by omega
      have HC : Hid (ChgP P w w) := Lib.hid (ChgP.refl _ _)
      have HLN : Hid (ds.length ≤ 50000) := Lib.hid HR.out.2.2.2.1
      clear hf HS1 h4
      go_enter Try.func11, Try.ntmps11
      have h1 : w.cell? ⟨gc, 0, none⟩ = some (.int .i64 now) := HH.out.cl.blk.cell 0
      have HPU := Lib.hid (cput_any P w gc gm now k p c _ ds s (now + later) HH.out HNN.out (by have := HR.out; omega) (by have := HLN.out; have := HR.out; omega) (by have := HR.out; omega) (fun x hx => HP.out x (Nat.le_trans HC.out.size hx)))
      go_wp2_with fail
      refine HPU.out.mono ?_
      rintro y w2 ⟨rfl, b, p2, c2, a2, h2, hc2⟩
      go_wp2_with fail
      go_ret
      exact ⟨(by rw [HE.out]; rfl), k + 1, _, ⟨gm, p2, c2, a2, h2⟩, ⟨fun _ => ⟨rfl, b, by rw [HDD.out]⟩, fun hne => absurd HE.out hne⟩, HC.out.trans hc2⟩
  | some b =>
    have HE : Hid (setE now ds s later = 0) := Lib.hid (by rw [HS1.out]; exact if_neg (fun h => by rw [hf] at h; cases h.1))
    rw [hf] at hl
    unfold ptrU at hl
    obtain ⟨d, hd, rfl, rfl⟩ := dof_some hf
    have HT := Lib.hid (ctake_any P w gc gm now k p c hs' ds d HH.out hd HR.out.2.2.2.1)
    have HNN : Hid (dofU (dropU ds d.nm) d.nm = none) := Lib.hid (by rw [dof_drop, if_pos rfl])
    have HLN : Hid ((dropU ds d.nm).length ≤ 50000) := Lib.hid (by have := drop_len HH.out.nd hd; have := HR.out; omega)
    clear hf HS1 hd
    generalize hsn : d.nm = s at *
    clear hsn
    go_enter Try.func11, Try.ntmps11
    go_wp2_with fail
    refine HT.out.mono ?_
    rintro y w1 ⟨rfl, a, ha, hc⟩
    have HA := Lib.hid ha
    have HC := Lib.hid hc
    clear ha hc k0 k2 k3 hl HT
    have h1 : w1.cell? ⟨gc, 0, none⟩ = some (.int .i64 now) := HA.out.cl.blk.cell 0
    have HPU := Lib.hid (cput_any P w1 gc gm now k p c _ (dropU ds s) s (now + later) HA.out HNN.out (by have := HR.out; omega) (by have := HLN.out; have := HR.out; omega) (by have := HR.out; omega) (fun x hx => HP.out x (Nat.le_trans HC.out.size hx)))
    go_wp2_with fail
    refine HPU.out.mono ?_
    rintro y w2 ⟨rfl, b, p2, c2, a2, h2, hc2⟩
    go_wp2_with fail
    go_ret
    exact ⟨(by rw [HE.out]; rfl), k + 1, _, ⟨gm, p2, c2, a2, h2⟩, ⟨fun _ => ⟨rfl, b, rfl⟩, fun hne => absurd HE.out hne⟩, HC.out.trans hc2⟩
end Go.Proofs.Ytpmiekheiddihaa
