/- A disk's methods that change it, by contract: refuses, spend, giveUpRenewed, settle, Fuse. -/
import Derived.Test.YtjbhcdmeeakdcaaDisk
namespace Go.Proofs.Ytjbhcdmeeakdcaa
open Go.RowKit
set_option maxHeartbeats 1000000 in
theorem refuses_any (w : World) (g : Nat) (d : DSt) (vs vr : Value) (n room : Int) (h : Blk w g (cellsD d vs vr) 65) :
    Calls Try.prog 41 #[.pointer (some ⟨g, 0, none⟩), .int .i64 n, .int .i64 room] w fun x w' => x = .returned (.int .i64 (if d.dn = true then 60 else if room < n then 3 else 0)) ∧ w = w' := by
  have c4 : w.cell? ⟨g, 4, none⟩ = some (.bool d.dn) := h.cell 4
  clear h
  cases hd : d.dn
  · rw [hd] at c4
    by_cases hr : room < n
    · go_enter Try.func41, Try.ntmps41
      go_wp2_with fail
      go_ret
      exact ⟨rfl, rfl⟩
    · have hr' : n ≤ room := by omega
      go_enter Try.func41, Try.ntmps41
      go_wp2_with fail
      go_ret
      exact ⟨rfl, rfl⟩
  · rw [hd] at c4
    go_enter Try.func41, Try.ntmps41
    go_wp2_with fail
    go_ret
    exact ⟨rfl, rfl⟩
def DSt.spentD (d : DSt) (n : Nat) : DSt := { d with left := spendL d.left n, dn := d.dn || spendE d.left n }
set_option maxHeartbeats 2000000 in
theorem spend_any (w : World) (g : Nat) (d : DSt) (vs vr : Value) (n : Nat) (hn : n ≤ 8388608) (h7 : -9223372036854775808 ≤ d.left) (h8 : d.left ≤ 9223372036854775807) (h : Blk w g (cellsD d vs vr) 65) :
    Calls Try.prog 43 #[.pointer (some ⟨g, 0, none⟩), .int .i64 n] w fun x w' => x = .returned (.tuple #[.int .i64 (spendN d.left n : Nat), .int .i64 (if spendE d.left n = true then 60 else 0)]) ∧ Chg g w w' ∧ Blk w' g (cellsD (d.spentD n) vs vr) 65 := by
  have HB := Lib.hid h
  unfold cellsD at h
  have c5 : w.cell? ⟨g, 5, none⟩ = some (.int .i64 d.left) := h.cell 5
  have c4 : w.cell? ⟨g, 4, none⟩ = some (.bool d.dn) := h.cell 4
  have f5 := h.free 5
  have f4 := h.free 4
  have hlt := h.lt
  clear h
  by_cases hl : d.left < 0
  · have hE : spendE d.left n = false := by unfold spendE; rw [decide_eq_false_iff_not]; omega
    have hN : spendN d.left n = n := by unfold spendN; rw [hE]; rfl
    have hS : d.spentD n = d := by unfold DSt.spentD spendL; rw [if_pos hl, hE, Bool.or_false]
    rw [hE, hN, hS]
    go_enter Try.func43, Try.ntmps43
    go_wp2_with fail
    go_ret2
    exact ⟨rfl, Chg.refl _ _, HB.out⟩
  · by_cases hs : d.left < n
    · have hE : spendE d.left n = true := by unfold spendE; rw [decide_eq_true_eq]; omega
      have hN : ((spendN d.left n : Nat) : Int) = d.left := by unfold spendN; rw [hE, if_pos rfl]; omega
      have hS : d.spentD n = { d with left := -1, dn := true } := by unfold DSt.spentD spendL; rw [if_neg hl, hE, if_pos rfl, Bool.or_true]
      rw [hE, hN, hS]
      have hl' : (0 : Int) ≤ d.left := by omega
      go_enter Try.func43, Try.ntmps43
      go_wp2_with fail
      go_ret2
      exact ⟨rfl, ((Chg.refl g w).set 5 _).set 4 _, (HB.out.set 5 _).set 4 _⟩
    · have hE : spendE d.left n = false := by unfold spendE; rw [decide_eq_false_iff_not]; omega
      have hN : spendN d.left n = n := by unfold spendN; rw [hE]; rfl
      have hS : d.spentD n = { d with left := d.left - n } := by unfold DSt.spentD spendL; rw [if_neg hl, hE, if_neg (by decide), Bool.or_false]
      rw [hE, hN, hS]
      have hl' : (0 : Int) ≤ d.left := by omega
      have hs' : (n : Int) ≤ d.left := by omega
      go_enter Try.func43, Try.ntmps43
      go_wp2_with fail
      go_ret2
      exact ⟨rfl, (Chg.refl g w).set 5 _, HB.out.set 5 _⟩
set_option maxHeartbeats 2000000 in
theorem give_any (w : World) (g : Nat) (d : DSt) (vs vr : Value) (h : Blk w g (cellsD d vs vr) 65) :
    Calls Try.prog 38 #[.pointer (some ⟨g, 0, none⟩)] w fun x w' => x = .returned (.tuple #[]) ∧ Chg g w w' ∧ Blk w' g (cellsD d.giveD vs (if d.nw = true then .slice none 0 0 else vr)) 65 := by
  have HB := Lib.hid h
  have c3 : w.cell? ⟨g, 3, none⟩ = some (.bool d.nw) := h.cell 3
  have c2 : w.cell? ⟨g, 2, none⟩ = some vr := h.cell 2
  have f2 := h.free 2
  have f3 := h.free 3
  have hlt := h.lt
  clear h
  cases hn : d.nw
  · rw [hn] at c3
    go_enter Try.func38, Try.ntmps38
    go_wp2_with fail
    go_end0
    exact ⟨rfl, Chg.refl _ _, by have h := HB.out; unfold DSt.giveD; rw [if_neg (by rw [hn]; decide)]; exact h⟩
  · rw [hn] at c3
    go_enter Try.func38, Try.ntmps38
    go_wp2_with fail
    go_end0
    refine ⟨rfl, ((Chg.refl g w).set 2 _).set 3 _, ?_⟩
    have h := (HB.out.set 2 (.slice none 0 0)).set 3 (.bool false)
    unfold DSt.giveD
    rw [if_pos hn]
    exact h
set_option maxHeartbeats 2000000 in
theorem fuse_anyP (P : Nat → Prop) (w : World) (base g : Nat) (d : DSt) (n : Int) (h1 : -9223372036854775808 ≤ n) (h2 : n ≤ 9223372036854775807) (h : Dkp P w base g d) :
    Calls Try.prog 19 #[.pointer (some ⟨g, 0, none⟩), .int .i64 n] w fun x w' => x = .returned (.tuple #[]) ∧ Dkp P w' base g (d.fuseD n) ∧ BelowP P base w w' := by
  obtain ⟨vs, vr, hb, k1, k2, k3, k4, k5, k6, k7, kP⟩ := h
  have HB := Lib.hid hb
  have c5 : w.cell? ⟨g, 5, none⟩ = some (.int .i64 d.left) := hb.cell 5
  have f5 := hb.free 5
  have hlt := hb.lt
  clear hb
  go_enter Try.func19, Try.ntmps19
  go_wp2_with fail
  go_end0
  have hc : Chg g w (w.setCell ⟨g, 5, none⟩ (.int .i64 n)) := (Chg.refl g w).set 5 _
  exact ⟨rfl, ⟨vs, vr, HB.out.set 5 _, k1.chgV hc k3, k2.chgV hc k4, k3, k4, k5, k6, fuse_ok k7 h1 h2, kP.mono hc.size⟩, BelowP.chg hc k6 (Nat.le_of_lt (Nat.lt_of_le_of_lt k6 hlt)) kP.1⟩
theorem fuse_any (w : World) (base g : Nat) (d : DSt) (n : Int) (h1 : -9223372036854775808 ≤ n) (h2 : n ≤ 9223372036854775807) (h : Dk w base g d) :
    Calls Try.prog 19 #[.pointer (some ⟨g, 0, none⟩), .int .i64 n] w fun x w' => x = .returned (.tuple #[]) ∧ Dk w' base g (d.fuseD n) ∧ Below base w w' :=
  (fuse_anyP none_ w base g d n h1 h2 h.dkp).mono fun _ _ ⟨h1, h2, h3⟩ => ⟨h1, h2.dk, h3.1⟩
end Go.Proofs.Ytjbhcdmeeakdcaa
