/- MsgReads: the end of what the document's From reads. -/
import Derived.Test.YtbimbpmdiahhbaaFromPure
import Derived.Test.YtbimbpmdiahhbaaRwN
namespace Go.Proofs.Ytbimbpmdiahhbaa
open Go.RowKit
/-- A row of numbers that lies from block B on. -/
def NRw (w : World) (B : Nat) (v : Value) (ns : List Int) : Prop := Own .i64 w B 2 v ns
theorem NRw.kept {w w' : World} {B : Nat} {v : Value} {ns : List Int} (h : NRw w B v ns) (hb : Below w.heap.size w w') : NRw w' B v ns := Own.later h hb
theorem NRw.chg {w w' : World} {B g : Nat} {v : Value} {ns : List Int} (h : NRw w B v ns) (hc : Chg g w w') (hg : g < B) : NRw w' B v ns := Own.chgV h hc (fun e => by have := Own.block_ge h _ e; omega)
theorem infM {cs : Array Value} (h : cs.size = 11) : (Try.prog.info? 29).map (·.size) = some cs.size := inf11 cs h
/-- Where the reading of the lines stands. -/
structure AtL (r q q0 : RS) (i : Nat) : Prop where
  seven : dk r 7 = q
  le : i ≤ fLs q
  at' : (F10 q).lins i = q0
  all : i = fLs q ∨ q0.e ≠ 0
theorem AtL.nets {r q q0 q1 q2 : RS} {i nn j : Nat} (h : AtL r q q0 i) (hn : q0.intV 0 8 = (nn : Int)) (h1 : q0.int 0 8 = q1) (hj : j ≤ nn) (h2 : q1.nets j = q2) (hE : j = nn ∨ q2.e ≠ 0) : (F13 q).e = q2.e := by
  obtain ⟨_, hi, h0, ha⟩ := h
  by_cases hq : q0.e = 0
  · have hi2 : i = fLs q := by rcases ha with h | h; exact h; exact absurd hq h
    subst hi2
    have e0 : F11 q = q0 := h0
    have e1 : F12 q = q1 := by unfold F12; rw [e0]; exact h1
    have e2 : fNs q = nn := by unfold fNs; rw [e0, hn]; simp
    rcases hE with hE | hE
    · subst hE
      unfold F13
      rw [e1, e2, h2]
    · have h3 := F13_nets (q := q) (i := j) (by omega) (by rw [e1, h2]; exact hE)
      rw [h3, e1, h2]
  · have e1 : q1.e = q0.e := by rw [← h1]; exact int_stick hq _ _
    have e2 : q2.e = q1.e := by rw [← h2]; exact nets_stick (by rw [e1]; exact hq) _
    have h3 := F13_lines (q := q) (i := i) hi (by rw [h0]; exact hq)
    rw [h3, h0, e2, e1]
theorem rdE_F13 {r q : RS} (h : dk r 7 = q) : rdE r = (F13 q).e := by
  unfold rdE
  cases hb : badK r
  · rw [if_neg (by simp), ← F13_R13, ← h, dk_good hb 6]
    rfl
  · rw [if_pos rfl]
    have h1 : q.e = 110 := by rw [← h]; exact dk_bad hb 6
    rw [F13_stick (by rw [h1]; decide), h1]
theorem AtL.bad {r q q0 q1 q2 : RS} {i nn j : Nat} (h : AtL r q q0 i) (hn : q0.intV 0 8 = (nn : Int)) (h1 : q0.int 0 8 = q1) (hj : j ≤ nn) (h2 : q1.nets j = q2) (he : q2.e ≠ 0) : rdE r = q2.e ∧ rdM r = msg0 ∧ rdE r ≠ 0 := by
  have h3 : rdE r = q2.e := (rdE_F13 h.seven).trans (h.nets hn h1 hj h2 (.inr he))
  refine ⟨h3, ?_, by rw [h3]; exact he⟩
  unfold rdM
  rw [if_neg (by rw [h3]; exact he)]
theorem AtL.good {r q q0 q1 q2 : RS} {i nn j : Nat} (h : AtL r q q0 i) (hn : q0.intV 0 8 = (nn : Int)) (h1 : q0.int 0 8 = q1) (hj : j = nn) (h2 : q1.nets j = q2) (he : q2.e = 0) {v0 v1 v2 v3 v4 v5 v6 : Int} (hv : (dk r 0).nV = v0 ∧ (dk r 1).nV = v1 ∧ (dk r 2).nV = v2 ∧ (dk r 3).nV = v3 ∧ (dk r 4).nV = v4 ∧ (dk r 5).nV = v5 ∧ (dk r 6).nV = v6) :
    rdE r = 0 ∧ rdR r = q2 ∧ rdM r = ⟨v0, v1, v2, v3, v4, v5, v6, q.numV, q.num.boolV, rdLins (F10 q) i, rdNets q1 j⟩ := by
  have h3 : rdE r = 0 := ((rdE_F13 h.seven).trans (h.nets hn h1 (Nat.le_of_eq hj) h2 (.inl hj))).trans he
  have hb : badK r = false := by
    cases hb : badK r
    · rfl
    · exfalso
      unfold rdE at h3
      rw [if_pos hb] at h3
      cases h3
  obtain ⟨hs, hi, h0, ha⟩ := h
  have hq0 : q0.e = 0 := by
    by_cases hq : q0.e = 0
    · exact hq
    · exfalso
      have e1 : q1.e = q0.e := by rw [← h1]; exact int_stick hq _ _
      have e2 : q2.e = q1.e := by rw [← h2]; exact nets_stick (by rw [e1]; exact hq) _
      exact hq (by rw [← e1, ← e2]; exact he)
  have hi2 : i = fLs q := by rcases ha with h | h; exact h; exact absurd hq0 h
  subst hi2
  have e0 : F11 q = q0 := h0
  have e1 : F12 q = q1 := by unfold F12; rw [e0]; exact h1
  have e2 : fNs q = nn := by unfold fNs; rw [e0, hn]; simp
  have e7 : R7 r = q := by rw [← hs, dk_good hb 6]; rfl
  have eR : rdR r = q2 := by
    unfold rdR
    rw [hb, if_neg (by simp), ← F13_R13, e7]
    unfold F13
    rw [e1, e2, ← hj, h2]
  refine ⟨h3, eR, ?_⟩
  unfold rdM
  rw [if_pos h3]
  obtain ⟨a0, a1, a2, a3, a4, a5, a6⟩ := hv
  rw [show dk r 0 = r from rfl] at a0
  rw [dk_good hb 0] at a1
  rw [dk_good hb 1] at a2
  rw [dk_good hb 2] at a3
  rw [dk_good hb 3] at a4
  rw [dk_good hb 4] at a5
  rw [dk_good hb 5] at a6
  subst a0 a1 a2 a3 a4 a5 a6
  unfold rdAll
  rw [show R10 r = F10 (R7 r) from rfl, show R12 r = F12 (R7 r) from rfl, show nLs r = fLs (R7 r) from rfl, show nNs r = fNs (R7 r) from rfl, e7, e1, e2, ← hj]
  rfl
theorem lrow_below {w w' : World} {B base : Nat} {v : Value} {xs : List Lin} (h : OwnT encN w base 49 v xs) (hb : Below B w w') (hv : ∀ b, v.ownBlock = some b → b < B) : OwnT encN w' base 49 v xs := h.stay (fun b hg => hb.block b (hv b hg))
end Go.Proofs.Ytbimbpmdiahhbaa
