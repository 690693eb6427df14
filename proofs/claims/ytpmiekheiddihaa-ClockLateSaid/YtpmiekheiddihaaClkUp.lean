/- heap.up, heap.down by contract. -/
import Derived.Test.YtpmiekheiddihaaClkM
import Derived.Test.YtpmiekheiddihaaClkPure
import Derived.Deep.CutBlock
namespace Go.Proofs.Ytpmiekheiddihaa
open Go.RowKit
/-- A clock in block gc, what is due in blocks of Q. -/
structure ClX (Q : Nat → Prop) (w : World) (gc : Nat) (now sets : Int) (mv : Value) (p : Option Addr) (n c : Nat) (hs : List Du) : Prop where
  hp : Hp Q w p n c hs
  blk : Blk w gc #[.int .i64 now, .int .i64 sets, .slice p n c, mv] 59
  nq : ¬ Q gc
theorem ClX.kept {Q : Nat → Prop} {w w' : World} {gc : Nat} {now sets : Int} {mv : Value} {p : Option Addr} {n c : Nat} {hs : List Du} (h : ClX Q w gc now sets mv p n c hs) (hb : Below w.heap.size w w') : ClX Q w' gc now sets mv p n c hs := ⟨h.hp.kept hb, h.blk.below hb h.blk.lt, h.nq⟩
/-- Beyond the first N nothing has changed; all are there. -/
def Tl (hs hs' : List Du) (N : Nat) : Prop := hs'.Perm hs ∧ ∀ k, N ≤ k → HU hs' k = HU hs k
theorem Tl.refl (hs : List Du) (N : Nat) : Tl hs hs N := ⟨List.Perm.refl _, fun _ _ => rfl⟩
theorem Tl.swap {hs a : List Du} {N i j : Nat} {hi : i < a.length} {hj : j < a.length} (h : Tl hs a N) (hij : i < j) (hN : j < N) : Tl hs (swapL a i j hi hj) N := ⟨(swap_perm hi hj hij).trans h.1, fun k hk => by rw [HU_swap hij, if_neg (by omega), if_neg (by omega)]; exact h.2 k hk⟩
theorem ltH_at {hs : List Du} {a b : Nat} (ha : a < hs.length) (hb : b < hs.length) : lessU hs[a] hs[b] = ltH hs a b := by unfold ltH; rw [HU_at ha, HU_at hb]
theorem idx {k : Nat} (h : k ≤ 1000000) : wrap64 ((k : Int) - 1) = (k : Int) - 1 ∧ wrap64 (k : Int) = (k : Int) ∧ wrap64 (2 * (k : Int)) = 2 * (k : Int) ∧ wrap64 (2 * (k : Int) + 1) = ((2 * k + 1 : Nat) : Int) ∧ wrap64 (((2 * k + 1 : Nat) : Int) + 1) = ((2 * k + 2 : Nat) : Int) := by
  refine ⟨?_, ?_, ?_, ?_, ?_⟩ <;> · rw [IntWalk.wrap64_in _ (by omega)] <;> omega
set_option linter.unusedSimpArgs false in
set_option maxHeartbeats 4000000 in
set_option maxRecDepth 100000 in
theorem up_any (Q : Nat → Prop) (w : World) (gc : Nat) (now sets : Int) (mv : Value) (p : Option Addr) (n c : Nat) (hs : List Du) (N j : Nat) (h : ClX Q w gc now sets mv p n c hs) (hup : UpI hs N j) (hN : N ≤ n) (hn : n ≤ 1000000) (hj : j < N) :
    Calls Try.prog 27 #[.iface 67 (.pointer (some ⟨gc, 2, none⟩)), .int .i64 j] w fun e w' => e = .returned (.tuple #[]) ∧ ∃ hs', ClX Q w' gc now sets mv p n c hs' ∧ HOk hs' N ∧ Tl hs hs' N ∧ ChgP Q w w' := by
  have HREL : Hid (ClX Q w gc now sets mv p n c hs ∧ UpI hs N j ∧ Tl hs hs N ∧ ChgP Q w w) := Lib.hid ⟨h, hup, Tl.refl _ _, ChgP.refl _ _⟩
  have HNN : Hid (N ≤ n ∧ n ≤ 1000000 ∧ j < N ∧ hs.length = n) := Lib.hid ⟨hN, hn, hj, h.hp.len⟩
  clear h hup hN hn hj
  go_enter Try.func27, Try.ntmps27
  go_wp2_with fail
  go_loopw [1] (fun v wr => ∃ (k : Nat) (a : List Du), v = .int .i64 k ∧ k < N ∧ Hid (ClX Q wr gc now sets mv p n c a ∧ UpI a N k ∧ Tl hs a N ∧ ChgP Q w wr)) (fun v _ => (intOf v).toNat)
  case atStart => exact ⟨j, hs, rfl, HNN.out.2.2.1, HREL⟩
  case round =>
    obtain ⟨k, a, rfl, hk, HJ⟩ := hrel
    clear HREL
    have HL : Hid (a.length = n) := Lib.hid HJ.out.1.hp.len
    have hb : wr.cell? ⟨gc, 2, none⟩ = some (.slice p n c) := HJ.out.1.blk.cell 2
    by_cases hk0 : k = 0
    · have HFIN : Hid (HOk a N) := Lib.hid (up_zero (hk0 ▸ HJ.out.2.1))
      rw [hk0]
      rw [show ((0 : Nat) : Int) = 0 from rfl]
      have e1 : wrap64 ((0 : Int) - 1) = -1 := by unfold wrap64; omega
      have e1' : wrap64 (-1) = -1 := by unfold wrap64; omega
      have e2 : (-1 : Int).tdiv 2 = 0 := by decide
      have e3 : wrap64 (0 : Int) = 0 := by unfold wrap64; omega
      clear hk0
      go_wp2_with fail
      go_end0
      exact ⟨rfl, a, HJ.out.1, HFIN.out, HJ.out.2.2.1, HJ.out.2.2.2⟩
    · obtain ⟨i, hi⟩ : ∃ i, i = (k - 1) / 2 := ⟨_, rfl⟩
      have hik : i < k := by omega
      have hkl : k < a.length := by have := HL.out; have := HNN.out; omega
      have hil : i < a.length := by omega
      have e1 := (idx (k := k) (by have := HL.out; have := HNN.out; omega)).1
      have e2 : ((k : Int) - 1).tdiv 2 = (i : Int) := by
        have : (k : Int) - 1 = ((k - 1 : Nat) : Int) := by omega
        rw [this, hi]
        rfl
      have e3 := (idx (k := i) (by have := HL.out; have := HNN.out; omega)).2.1
      have e4 : ((i : Int) == (k : Int)) = false := by simp; omega
      have hm := m_less ⟨gc, 2, none⟩ wr p n c hb
      have HII : Hid (i = (k - 1) / 2 ∧ 0 < k) := Lib.hid ⟨hi, by omega⟩
      have HLS := Lib.hid (less_any wr p n c a HJ.out.1.hp k i hkl hil)
      rw [ltH_at hkl hil] at HLS
      clear hi hk0
      go_wp2_with fail
      refine HLS.out.mono ?_
      rintro y9 w1 ⟨rfl, hb1⟩
      have HC1 := Lib.hid (HJ.out.1.kept hb1)
      have HP1 := Lib.hid (HJ.out.2.2.2.trans (ChgP.of_below hb1))
      clear hm hb HLS hb1
      cases hlt : ltH a k i
      case false =>
        have HFIN : Hid (HOk a N) := Lib.hid (up_end HJ.out.2.1 (by rw [← HII.out.1]; exact hlt))
        clear hlt
        go_wp2_with fail
        go_end0
        exact ⟨rfl, a, HC1.out, HFIN.out, HJ.out.2.2.1, HP1.out⟩
      case true =>
        have HUS : Hid (UpI (swapL a i k hil hkl) N i) := Lib.hid (up_step HJ.out.2.1 HII.out.2 HII.out.1 hk hlt)
        have HTS : Hid (Tl hs (swapL a i k hil hkl) N) := Lib.hid (HJ.out.2.2.1.swap hik hk)
        have HSW := Lib.hid (swap_any w1 p n c a HC1.out.hp i k hil hkl hik)
        have hb : w1.cell? ⟨gc, 2, none⟩ = some (.slice p n c) := HC1.out.blk.cell 2
        have hm := m_swap ⟨gc, 2, none⟩ w1 p n c hb
        clear hlt HJ
        generalize swapL a i k hil hkl = a2 at *
        go_wp2_with fail
        refine HSW.out.mono ?_
        rintro y9 w2 ⟨rfl, hp2, hc2⟩
        have HNX : Hid (ClX Q w2 gc now sets mv p n c a2 ∧ UpI a2 N i ∧ Tl hs a2 N ∧ ChgP Q w w2) := Lib.hid ⟨⟨hp2, hc2.blk HC1.out.blk HC1.out.nq, HC1.out.nq⟩, HUS.out, HTS.out, HP1.out.trans hc2⟩
        clear hm hb hp2 hc2 HSW HUS HTS HC1 HP1 HII
        go_wp2_with fail
        go_roundw
        case rel => exact ⟨i, a2, rfl, by omega, HNX⟩
        case measure => simp [intOf]; omega
set_option linter.unusedSimpArgs false in
set_option maxHeartbeats 4000000 in
set_option maxRecDepth 100000 in
theorem down_any (Q : Nat → Prop) (w : World) (gc : Nat) (now sets : Int) (mv : Value) (p : Option Addr) (n c : Nat) (hs : List Du) (N i0 : Nat) (h : ClX Q w gc now sets mv p n c hs) (hdn : DnI hs N i0 i0) (hN : N ≤ n) (hn : n ≤ 1000000) (hi : i0 < N) :
    Calls Try.prog 26 #[.iface 67 (.pointer (some ⟨gc, 2, none⟩)), .int .i64 i0, .int .i64 N] w fun e w' => ∃ m : Bool, e = .returned (.bool m) ∧ ∃ hs', ClX Q w' gc now sets mv p n c hs' ∧ (m = true → HOk hs' N) ∧ (m = false → UpI hs' N i0) ∧ Tl hs hs' N ∧ ChgP Q w w' := by
  have HREL : Hid (ClX Q w gc now sets mv p n c hs ∧ DnI hs N i0 i0 ∧ Tl hs hs N ∧ ChgP Q w w) := Lib.hid ⟨h, hdn, Tl.refl _ _, ChgP.refl _ _⟩
  have HNN : Hid (N ≤ n ∧ n ≤ 1000000 ∧ i0 < N ∧ hs.length = n) := Lib.hid ⟨hN, hn, hi, h.hp.len⟩
  clear h hdn hN hn hi
  go_enter Try.func26, Try.ntmps26
  go_wp2_with fail
  go_loopw [7] (fun v wr => ∃ (k : Nat) (a : List Du), v = .int .i64 k ∧ i0 ≤ k ∧ k < N ∧ Hid (ClX Q wr gc now sets mv p n c a ∧ DnI a N i0 k ∧ Tl hs a N ∧ ChgP Q w wr)) (fun v _ => N - (intOf v).toNat)
  case atStart => exact ⟨i0, hs, rfl, Nat.le_refl _, HNN.out.2.2.1, HREL⟩
  case round =>
    obtain ⟨k, a, rfl, hik, hk, HJ⟩ := hrel
    clear HREL
    have HL : Hid (a.length = n) := Lib.hid HJ.out.1.hp.len
    have HC1 := Lib.hid HJ.out.1
    have HDN := Lib.hid HJ.out.2.1
    have HT := Lib.hid HJ.out.2.2.1
    have HP1 := Lib.hid HJ.out.2.2.2
    clear HJ
    obtain ⟨-, -, e1, e2, e3⟩ := idx (k := k) (by have := HL.out; have := HNN.out; omega)
    obtain ⟨j1, hj1⟩ : ∃ j1, j1 = 2 * k + 1 := ⟨_, rfl⟩
    obtain ⟨j2, hj2⟩ : ∃ j2, j2 = 2 * k + 2 := ⟨_, rfl⟩
    rw [← hj1] at e2 e3
    rw [← hj2] at e3
    have HJJ : Hid (j1 = 2 * k + 1 ∧ j2 = 2 * k + 2) := Lib.hid ⟨hj1, hj2⟩
    by_cases hc1 : N ≤ j1
    · have e4 : decide ((N : Int) ≤ (j1 : Int)) = true := by simp; omega
      have HCH : Hid (∀ q, 0 < q → q < N → (q - 1) / 2 = k → ltH a q k = false) := Lib.hid (fun q h1 h2 h3 => by omega)
      have hle : (N : Int) ≤ (j1 : Int) := by omega
      clear hc1 hj1 hj2


      have HFI : Hid ((k ≠ i0 → HOk a N) ∧ (k = i0 → UpI a N i0)) := Lib.hid (dn_end HDN.out (HCH.out))
      by_cases hmv : i0 < k
      · have e9' : decide (i0 < k) = true := by simp; omega
        have HH : Hid (HOk a N) := Lib.hid (HFI.out.1 (by omega))
        have HE9 := Lib.hid e9'
        clear HFI hmv e9'
        go_wp2_with fail
        go_ret
        have e9' := HE9.out
        exact ⟨_, rfl, a, HC1.out, fun _ => HH.out, (fun h => by rw [e9'] at h; cases h), HT.out, HP1.out⟩
      · have e9' : decide (i0 < k) = false := by simp; omega
        have HH : Hid (UpI a N i0) := Lib.hid (HFI.out.2 (by omega))
        have HE9 := Lib.hid e9'
        clear HFI hmv e9'
        go_wp2_with fail
        go_ret
        have e9' := HE9.out
        exact ⟨_, rfl, a, HC1.out, (fun h => by rw [e9'] at h; cases h), fun _ => HH.out, HT.out, HP1.out⟩
    · have e4 : decide ((N : Int) ≤ (j1 : Int)) = false := by simp; omega
      have e5 : decide ((j1 : Int) < 0) = false := by simp
      have hlt1 : (j1 : Int) < (N : Int) := by omega
      have hge : ¬ ((j1 : Int) < 0) := by omega
      have hj1N : j1 < N := by omega
      clear hc1
      by_cases hc2 : j2 < N
      · have e6 : decide ((j2 : Int) < (N : Int)) = true := by simp; omega
        have hlt2 : (j2 : Int) < (N : Int) := by omega
        have h1l : j1 < a.length := by have := HL.out; have := HNN.out; omega
        have h2l : j2 < a.length := by have := HL.out; have := HNN.out; omega
        have hb : wr.cell? ⟨gc, 2, none⟩ = some (.slice p n c) := HC1.out.blk.cell 2
        have hm := m_less ⟨gc, 2, none⟩ wr p n c hb
        have HLS := Lib.hid (less_any wr p n c a HC1.out.hp j2 j1 h2l h1l)
        rw [ltH_at h2l h1l] at HLS
        clear hj1 hj2
        go_wp2_with fail
        refine HLS.out.mono ?_
        rintro y9 w1 ⟨rfl, hb1⟩
        have HC2 := Lib.hid (HC1.out.kept hb1)
        have HP2 := Lib.hid (HP1.out.trans (ChgP.of_below hb1))
        clear hm hb HLS hb1 HC1 HP1
        have HC1 := HC2
        have HP1 := HP2
        clear HC2 HP2
        cases hl2 : ltH a j2 j1
        case true =>
          have HSIB : Hid (∀ q, 0 < q → q < N → (q - 1) / 2 = k → ltH a q j2 = false) := Lib.hid (fun q h1 h2 h3 => by
            rcases (show q = j1 ∨ q = j2 by have := HJJ.out; omega) with rfl | rfl
            · exact less_asym hl2
            · unfold ltH; rw [lessU_not]; omega)
          clear hl2
          have hjl : j2 < a.length := by have := HL.out; have := HNN.out; omega
          have hkl : k < a.length := by have := HL.out; have := HNN.out; omega
          have hb3 : w1.cell? ⟨gc, 2, none⟩ = some (.slice p n c) := HC1.out.blk.cell 2
          have hm3 := m_less ⟨gc, 2, none⟩ w1 p n c hb3
          have HLS := Lib.hid (less_any w1 p n c a HC1.out.hp j2 k hjl hkl)
          rw [ltH_at hjl hkl] at HLS
          go_wp2_with fail
          refine HLS.out.mono ?_
          rintro y9 w5 ⟨rfl, hb5⟩
          have HC5 := Lib.hid (HC1.out.kept hb5)
          have HP5 := Lib.hid (HP1.out.trans (ChgP.of_below hb5))
          clear hm3 hb3 HLS hb5 HC1 HP1
          cases hlt : ltH a j2 k
          case false =>
            have HCH : Hid (∀ q, 0 < q → q < N → (q - 1) / 2 = k → ltH a q k = false) := Lib.hid (fun q h1 h2 h3 => less_trans (HSIB.out q h1 h2 h3) hlt)
            clear hlt HSIB
            have HFI : Hid ((k ≠ i0 → HOk a N) ∧ (k = i0 → UpI a N i0)) := Lib.hid (dn_end HDN.out (HCH.out))
            by_cases hmv : i0 < k
            · have e9' : decide (i0 < k) = true := by simp; omega
              have HH : Hid (HOk a N) := Lib.hid (HFI.out.1 (by omega))
              have HE9 := Lib.hid e9'
              clear HFI hmv e9'
              go_wp2_with fail
              go_ret
              have e9' := HE9.out
              exact ⟨_, rfl, a, HC5.out, fun _ => HH.out, (fun h => by rw [e9'] at h; cases h), HT.out, HP5.out⟩
            · have e9' : decide (i0 < k) = false := by simp; omega
              have HH : Hid (UpI a N i0) := Lib.hid (HFI.out.2 (by omega))
              have HE9 := Lib.hid e9'
              clear HFI hmv e9'
              go_wp2_with fail
              go_ret
              have e9' := HE9.out
              exact ⟨_, rfl, a, HC5.out, (fun h => by rw [e9'] at h; cases h), fun _ => HH.out, HT.out, HP5.out⟩
          case true =>
            have HUS : Hid (DnI (swapL a k j2 hkl hjl) N i0 j2) := Lib.hid (dn_step HDN.out (by have := HJJ.out; omega) (by have := HJJ.out; omega) (by have := HJJ.out; omega) hlt HSIB.out)
            have hkj : k < j2 := by have := HJJ.out; omega
            have HTS : Hid (Tl hs (swapL a k j2 hkl hjl) N) := Lib.hid (HT.out.swap hkj (by have := HJJ.out; omega))
            have HSW := Lib.hid (swap_any w5 p n c a HC5.out.hp k j2 hkl hjl hkj)
            have hb : w5.cell? ⟨gc, 2, none⟩ = some (.slice p n c) := HC5.out.blk.cell 2
            have hm := m_swap ⟨gc, 2, none⟩ w5 p n c hb
            have hjN : j2 < N := by have := HJJ.out; omega
            clear hlt HSIB HDN HT
            generalize swapL a k j2 hkl hjl = a2 at *
            go_wp2_with fail
            refine HSW.out.mono ?_
            rintro y9 w2 ⟨rfl, hp2, hc2⟩
            have HNX : Hid (ClX Q w2 gc now sets mv p n c a2 ∧ DnI a2 N i0 j2 ∧ Tl hs a2 N ∧ ChgP Q w w2) := Lib.hid ⟨⟨hp2, hc2.blk HC5.out.blk HC5.out.nq, HC5.out.nq⟩, HUS.out, HTS.out, HP5.out.trans hc2⟩
            clear hm hb hp2 hc2 HSW HUS HTS HC5 HP5
            go_wp2_with fail
            go_roundw
            case rel => exact ⟨j2, a2, rfl, by omega, hjN, HNX⟩
            case measure => simp [intOf]; omega
        case false =>
          have HSIB : Hid (∀ q, 0 < q → q < N → (q - 1) / 2 = k → ltH a q j1 = false) := Lib.hid (fun q h1 h2 h3 => by
            rcases (show q = j1 ∨ q = j2 by have := HJJ.out; omega) with rfl | rfl
            · unfold ltH; rw [lessU_not]; omega
            · exact hl2)
          clear hl2
          have hjl : j1 < a.length := by have := HL.out; have := HNN.out; omega
          have hkl : k < a.length := by have := HL.out; have := HNN.out; omega
          have hb3 : w1.cell? ⟨gc, 2, none⟩ = some (.slice p n c) := HC1.out.blk.cell 2
          have hm3 := m_less ⟨gc, 2, none⟩ w1 p n c hb3
          have HLS := Lib.hid (less_any w1 p n c a HC1.out.hp j1 k hjl hkl)
          rw [ltH_at hjl hkl] at HLS
          go_wp2_with fail
          refine HLS.out.mono ?_
          rintro y9 w5 ⟨rfl, hb5⟩
          have HC5 := Lib.hid (HC1.out.kept hb5)
          have HP5 := Lib.hid (HP1.out.trans (ChgP.of_below hb5))
          clear hm3 hb3 HLS hb5 HC1 HP1
          cases hlt : ltH a j1 k
          case false =>
            have HCH : Hid (∀ q, 0 < q → q < N → (q - 1) / 2 = k → ltH a q k = false) := Lib.hid (fun q h1 h2 h3 => less_trans (HSIB.out q h1 h2 h3) hlt)
            clear hlt HSIB
            have HFI : Hid ((k ≠ i0 → HOk a N) ∧ (k = i0 → UpI a N i0)) := Lib.hid (dn_end HDN.out (HCH.out))
            by_cases hmv : i0 < k
            · have e9' : decide (i0 < k) = true := by simp; omega
              have HH : Hid (HOk a N) := Lib.hid (HFI.out.1 (by omega))
              have HE9 := Lib.hid e9'
              clear HFI hmv e9'
              go_wp2_with fail
              go_ret
              have e9' := HE9.out
              exact ⟨_, rfl, a, HC5.out, fun _ => HH.out, (fun h => by rw [e9'] at h; cases h), HT.out, HP5.out⟩
            · have e9' : decide (i0 < k) = false := by simp; omega
              have HH : Hid (UpI a N i0) := Lib.hid (HFI.out.2 (by omega))
              have HE9 := Lib.hid e9'
              clear HFI hmv e9'
              go_wp2_with fail
              go_ret
              have e9' := HE9.out
              exact ⟨_, rfl, a, HC5.out, (fun h => by rw [e9'] at h; cases h), fun _ => HH.out, HT.out, HP5.out⟩
          case true =>
            have HUS : Hid (DnI (swapL a k j1 hkl hjl) N i0 j1) := Lib.hid (dn_step HDN.out (by have := HJJ.out; omega) (by have := HJJ.out; omega) (by have := HJJ.out; omega) hlt HSIB.out)
            have hkj : k < j1 := by have := HJJ.out; omega
            have HTS : Hid (Tl hs (swapL a k j1 hkl hjl) N) := Lib.hid (HT.out.swap hkj (by have := HJJ.out; omega))
            have HSW := Lib.hid (swap_any w5 p n c a HC5.out.hp k j1 hkl hjl hkj)
            have hb : w5.cell? ⟨gc, 2, none⟩ = some (.slice p n c) := HC5.out.blk.cell 2
            have hm := m_swap ⟨gc, 2, none⟩ w5 p n c hb
            have hjN : j1 < N := by have := HJJ.out; omega
            clear hlt HSIB HDN HT
            generalize swapL a k j1 hkl hjl = a2 at *
            go_wp2_with fail
            refine HSW.out.mono ?_
            rintro y9 w2 ⟨rfl, hp2, hc2⟩
            have HNX : Hid (ClX Q w2 gc now sets mv p n c a2 ∧ DnI a2 N i0 j1 ∧ Tl hs a2 N ∧ ChgP Q w w2) := Lib.hid ⟨⟨hp2, hc2.blk HC5.out.blk HC5.out.nq, HC5.out.nq⟩, HUS.out, HTS.out, HP5.out.trans hc2⟩
            clear hm hb hp2 hc2 HSW HUS HTS HC5 HP5
            go_wp2_with fail
            go_roundw
            case rel => exact ⟨j1, a2, rfl, by omega, hjN, HNX⟩
            case measure => simp [intOf]; omega
      · have e6 : decide ((j2 : Int) < (N : Int)) = false := by simp; omega
        have hge2 : (N : Int) ≤ (j2 : Int) := by omega
        have HSIB : Hid (∀ q, 0 < q → q < N → (q - 1) / 2 = k → ltH a q j1 = false) := Lib.hid (fun q h1 h2 h3 => by
          obtain rfl : q = j1 := by have := HJJ.out; omega
          unfold ltH; rw [lessU_not]; omega)
        clear hc2 hj1 hj2
        have hjl : j1 < a.length := by have := HL.out; have := HNN.out; omega
        have hkl : k < a.length := by have := HL.out; have := HNN.out; omega
        have hb3 : wr.cell? ⟨gc, 2, none⟩ = some (.slice p n c) := HC1.out.blk.cell 2
        have hm3 := m_less ⟨gc, 2, none⟩ wr p n c hb3
        have HLS := Lib.hid (less_any wr p n c a HC1.out.hp j1 k hjl hkl)
        rw [ltH_at hjl hkl] at HLS
        go_wp2_with fail
        refine HLS.out.mono ?_
        rintro y9 w5 ⟨rfl, hb5⟩
        have HC5 := Lib.hid (HC1.out.kept hb5)
        have HP5 := Lib.hid (HP1.out.trans (ChgP.of_below hb5))
        clear hm3 hb3 HLS hb5 HC1 HP1
        cases hlt : ltH a j1 k
        case false =>
          have HCH : Hid (∀ q, 0 < q → q < N → (q - 1) / 2 = k → ltH a q k = false) := Lib.hid (fun q h1 h2 h3 => less_trans (HSIB.out q h1 h2 h3) hlt)
          clear hlt HSIB
          have HFI : Hid ((k ≠ i0 → HOk a N) ∧ (k = i0 → UpI a N i0)) := Lib.hid (dn_end HDN.out (HCH.out))
          by_cases hmv : i0 < k
          · have e9' : decide (i0 < k) = true := by simp; omega
            have HH : Hid (HOk a N) := Lib.hid (HFI.out.1 (by omega))
            have HE9 := Lib.hid e9'
            clear HFI hmv e9'
            go_wp2_with fail
            go_ret
            have e9' := HE9.out
            exact ⟨_, rfl, a, HC5.out, fun _ => HH.out, (fun h => by rw [e9'] at h; cases h), HT.out, HP5.out⟩
          · have e9' : decide (i0 < k) = false := by simp; omega
            have HH : Hid (UpI a N i0) := Lib.hid (HFI.out.2 (by omega))
            have HE9 := Lib.hid e9'
            clear HFI hmv e9'
            go_wp2_with fail
            go_ret
            have e9' := HE9.out
            exact ⟨_, rfl, a, HC5.out, (fun h => by rw [e9'] at h; cases h), fun _ => HH.out, HT.out, HP5.out⟩
        case true =>
          have HUS : Hid (DnI (swapL a k j1 hkl hjl) N i0 j1) := Lib.hid (dn_step HDN.out (by have := HJJ.out; omega) (by have := HJJ.out; omega) (by have := HJJ.out; omega) hlt HSIB.out)
          have hkj : k < j1 := by have := HJJ.out; omega
          have HTS : Hid (Tl hs (swapL a k j1 hkl hjl) N) := Lib.hid (HT.out.swap hkj (by have := HJJ.out; omega))
          have HSW := Lib.hid (swap_any w5 p n c a HC5.out.hp k j1 hkl hjl hkj)
          have hb : w5.cell? ⟨gc, 2, none⟩ = some (.slice p n c) := HC5.out.blk.cell 2
          have hm := m_swap ⟨gc, 2, none⟩ w5 p n c hb
          have hjN : j1 < N := by have := HJJ.out; omega
          clear hlt HSIB HDN HT
          generalize swapL a k j1 hkl hjl = a2 at *
          go_wp2_with fail
          refine HSW.out.mono ?_
          rintro y9 w2 ⟨rfl, hp2, hc2⟩
          have HNX : Hid (ClX Q w2 gc now sets mv p n c a2 ∧ DnI a2 N i0 j1 ∧ Tl hs a2 N ∧ ChgP Q w w2) := Lib.hid ⟨⟨hp2, hc2.blk HC5.out.blk HC5.out.nq, HC5.out.nq⟩, HUS.out, HTS.out, HP5.out.trans hc2⟩
          clear hm hb hp2 hc2 HSW HUS HTS HC5 HP5
          go_wp2_with fail
          go_roundw
          case rel => exact ⟨j1, a2, rfl, by omega, hjN, HNX⟩
          case measure => simp [intOf]; omega
end Go.Proofs.Ytpmiekheiddihaa
